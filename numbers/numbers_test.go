package numbers

import (
	"math"
	"strings"
	"testing"
)

// small is a kind that is no predeclared one.
type small int8

func TestAppend(t *testing.T) {
	for _, c := range []struct {
		number int64
		bytes  string
	}{
		{0, "\x00"}, {1, "\x01"}, {127, "\x7f"}, {128, "\x80\x01"}, {129, "\x81\x01"}, {1000, "\xe8\x07"}, {16383, "\xff\x7f"}, {16384, "\x80\x80\x01"}, {40000, "\xc0\xb8\x02"},
		{1<<21 - 1, "\xff\xff\x7f"}, {1 << 21, "\x80\x80\x80\x01"}, {1<<28 - 1, "\xff\xff\xff\x7f"}, {1 << 28, "\x80\x80\x80\x80\x01"}, {2000000000, "\x80\xa8\xd6\xb9\x07"}, {Greatest, "\xff\xff\xff\xff\x7f"},
	} {
		if out := Append(nil, c.number); string(out) != c.bytes {
			t.Errorf("Append(nil, %d) = %q, want %q", c.number, out, c.bytes)
		}
		if number, length := Read[int64](c.bytes + "\x80more"); number != c.number || length != len(c.bytes) {
			t.Errorf("Read(%q) = %d, %d, want %d, %d", c.bytes, number, length, c.number, len(c.bytes))
		}
	}
	if out := Append([]byte("ab"), 300); string(out) != "ab\xac\x02" {
		t.Errorf("Append behind ab: %q", out)
	}
}

func TestReadFindsNone(t *testing.T) {
	for _, text := range []string{
		"", "\x80", "\xff\xff\xff\xff", "\x80\x00", "\x81\x00", "\xff\x80\x00", "\x80\x80\x80\x80\x00",
		"\x80\x80\x80\x80\x80", "\x80\x80\x80\x80\x80\x01", "\xff\xff\xff\xff\xff\x7f", strings.Repeat("\x80", 1000) + "\x01",
	} {
		if number, length := Read[uint64](text); number != 0 || length != 0 {
			t.Errorf("Read(%.20q) = %d, %d, want 0, 0", text, number, length)
		}
	}
}

// through writes a number of a kind and reads it as the same kind.
func through[N Integer](t *testing.T, list ...N) {
	t.Helper()
	for _, number := range list {
		out := string(Append(nil, number))
		if same := string(Append(nil, uint64(number))); out != same {
			t.Errorf("%T %d: %q, but as a uint64 %q", number, number, out, same)
		}
		if got, length := Read[N](out); got != number || length != len(out) {
			t.Errorf("%T: Read(%q) = %d, %d, want %d, %d", number, out, got, length, number, len(out))
		}
	}
}

func TestEveryIntegerKind(t *testing.T) {
	through[int](t, 0, 127, 128, math.MaxInt32)
	through[int8](t, 0, 1, 126, 127)
	through[int16](t, 0, 127, 128, math.MaxInt16)
	through[int32](t, 0, 127, 128, math.MaxInt32)
	through[int64](t, 0, 127, 128, math.MaxUint32, Greatest)
	through[uint](t, 0, 127, 128, math.MaxUint32)
	through[uint8](t, 0, 127, 128, 255)
	through[uint16](t, 0, 127, 128, math.MaxUint16)
	through[uint32](t, 0, 127, 128, math.MaxUint32)
	through[uint64](t, 0, 127, 128, Greatest)
	through[uintptr](t, 0, 127, 128, math.MaxUint32)
	through[small](t, 0, 127)
}

// refuses reads a number that the kind cannot hold.
func refuses[N Integer](t *testing.T, numbers ...uint64) {
	t.Helper()
	for _, number := range numbers {
		if got, length := Read[N](string(Append(nil, number))); got != 0 || length != 0 {
			t.Errorf("%T: Read of %d = %d, %d, want 0, 0", got, number, got, length)
		}
	}
}

func TestReadTellsWhatTheKindCanHold(t *testing.T) {
	refuses[int8](t, 128, 255, 256, 384, Greatest)
	refuses[small](t, 128, 255, 256, Greatest)
	refuses[uint8](t, 256, 511, Greatest)
	refuses[int16](t, 1<<15, 1<<16-1, 1<<16, Greatest)
	refuses[uint16](t, 1<<16, Greatest)
	refuses[int32](t, 1<<31, 1<<32-1, 1<<32, Greatest)
	refuses[uint32](t, 1<<32, Greatest)
}
