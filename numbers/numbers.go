// Package numbers writes numbers into bytes and reads them out of bytes: seven
// bits a byte, the lowest first, each byte but the last with 128 added.
package numbers

// A number in bytes is from 0 to Greatest, and has from 1 to MaxBytes bytes.
const (
	Greatest = 1<<35 - 1
	MaxBytes = 5
)

// Integer is any integer kind.
type Integer interface {
	~int | ~int8 | ~int16 | ~int32 | ~int64 | ~uint | ~uint8 | ~uint16 | ~uint32 | ~uint64 | ~uintptr
}

// Append lays a number, which must be from 0 to Greatest, down behind out.
func Append[N Integer](out []byte, number N) []byte {
	// 127 and not 128, as every integer kind has it.
	for number > 127 {
		out = append(out, byte(number)|128)
		number >>= 7
	}
	return append(out, byte(number))
}

// Read tells the number with which a text begins, and how many bytes that has:
// 0 and 0, if none stands there, or one that the kind N cannot hold.
func Read[N Integer](text string) (N, int) {
	var all uint64
	for i := range min(len(text), MaxBytes) {
		all |= uint64(text[i]&127) << (7 * i)
		if text[i] >= 128 {
			continue
		}
		if isNeedless := i > 0 && text[i] == 0; isNeedless || uint64(N(all)) != all {
			return 0, 0
		}
		return N(all), i + 1
	}
	return 0, 0
}
