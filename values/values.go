// Package values holds what variables, fields and elements are made of: nothing,
// numbers, texts, and numerals, which are texts that were read and look like
// numbers.
package values

import (
	"cmp"
	"strconv"
	"strings"

	"glean/api"
)

type kind byte

// Nothing is the first, so that a Value that nobody filled is nothing.
const (
	nothing kind = iota
	number
	text
	numeral
)

// Value is a value. The number is that of a number or of a numeral, the text
// that of a text or of a numeral.
type Value struct {
	kind   kind
	number int
	text   string
}

// Number is a number as a value.
func Number(n int) Value {
	return Value{kind: number, number: n}
}

// Truth is 1 if something is so, else 0.
func Truth(isSo bool) Value {
	if isSo {
		return Number(1)
	}
	return Number(0)
}

// Text is a text as a value, whatever it looks like.
func Text(s string) Value {
	return Value{kind: text, text: s}
}

// Read is a text that was read as a value.
func Read(s string) Value {
	n, rest, found := scan(s)
	if !found || strings.Trim(rest, blanks) != "" || n != clamp(n) {
		return Text(s)
	}
	return Value{kind: numeral, number: int(n), text: s}
}

// Text is the text of a value.
func (v Value) Text() string {
	if v.kind == number {
		return strconv.Itoa(v.number)
	}
	return v.text
}

// Number is the number of a value.
func (v Value) Number() int {
	if v.kind != text {
		return v.number
	}
	n, _, _ := scan(v.text)
	return int(clamp(n))
}

// Holds tells whether a value holds.
func (v Value) Holds() bool {
	if v.kind == text {
		return v.text != ""
	}
	return v.number != 0
}

// Compare is below 0 if a is less than b, 0 if they are the same, else above 0.
func Compare(a, b Value) int {
	if a.kind == text || b.kind == text {
		return strings.Compare(a.Text(), b.Text())
	}
	return cmp.Compare(a.number, b.number)
}

// beyond is what digits say that say more than a number may be: how much more
// nobody asks.
const beyond = api.MaxNumber + 1

func clamp(n int64) int64 {
	return max(-api.MaxNumber, min(n, api.MaxNumber))
}

// scan reads the number with which a text begins behind its blanks: what it
// says (up to beyond, either way), what stands behind it, and whether there is
// one at all.
func scan(s string) (n int64, rest string, found bool) {
	s = strings.TrimLeft(s, blanks)
	isBelow := strings.HasPrefix(s, "-")
	if isBelow || strings.HasPrefix(s, "+") {
		s = s[1:]
	}
	for s != "" && '0' <= s[0] && s[0] <= '9' {
		n = min(10*n+int64(s[0]-'0'), beyond)
		s = s[1:]
		found = true
	}
	if isBelow {
		n = -n
	}
	return n, s, found
}
