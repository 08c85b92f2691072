package machine

import (
	"strings"

	"glean/api"
	"glean/values"
)

// Here are the instructions that look at nothing but their function's stack.

// playNumbers: add, sub, mul, div, mod.
func (f *frame) playNumbers(op byte) int {
	// Of this kind, as an int may not hold what mul makes.
	y, x := int64(f.popNumber()), int64(f.popNumber())
	var out int64
	switch {
	case op == api.OpAdd:
		out = x + y
	case op == api.OpSub:
		out = x - y
	case op == api.OpMul:
		out = x * y
	case y == 0:
		return api.StZero
	case op == api.OpDiv:
		out = x / y
	case op == api.OpMod:
		out = x % y
	}
	if isBeyond(out) {
		return api.StRange
	}
	f.pushNumber(int(out))
	return api.StGoing
}

func (f *frame) playCat() int {
	behind := f.popText()
	out := f.popText() + behind
	if isLong(out) {
		return api.StLong
	}
	f.pushText(out)
	return api.StGoing
}

// playOne: neg, not, tonum, totext, test.
func (f *frame) playOne(op byte) {
	switch x := f.pop(); op {
	case api.OpNeg:
		f.pushNumber(-x.Number())
	case api.OpNot:
		f.pushTruth(x.Number() == 0)
	case api.OpTonum:
		f.pushNumber(x.Number())
	case api.OpTotext:
		f.pushText(x.Text())
	case api.OpTest:
		f.pushTruth(x.Holds())
	}
}

// playCompare: lt, le, eq, ne, gt, ge.
func (f *frame) playCompare(op byte) {
	y := f.pop()
	order := values.Compare(f.pop(), y)
	switch op {
	case api.OpLt:
		f.pushTruth(order < 0)
	case api.OpLe:
		f.pushTruth(order <= 0)
	case api.OpEq:
		f.pushTruth(order == 0)
	case api.OpNe:
		f.pushTruth(order != 0)
	case api.OpGt:
		f.pushTruth(order > 0)
	case api.OpGe:
		f.pushTruth(order >= 0)
	}
}

// playText: len, part, index.
func (f *frame) playText(op byte) {
	switch op {
	case api.OpLen:
		f.pushNumber(len(f.popText()))
	case api.OpPart:
		count := f.popNumber()
		from := f.popNumber()
		f.pushText(part(f.popText(), from, count))
	case api.OpIndex:
		other := f.popText()
		f.pushNumber(strings.Index(f.popText(), other) + 1)
	}
}

// part is so many bytes of a text from one of them on (the first is the 1st),
// or those of them that are there.
func part(text string, from, count int) string {
	begin := max(from-1, 0)
	end := min(from+count-1, len(text))
	if begin >= end {
		return ""
	}
	return text[begin:end]
}

// playCells: dup, under, drop.
func (f *frame) playCells(op byte) {
	switch y := f.pop(); op {
	case api.OpDup:
		f.push(y)
		f.push(y)
	case api.OpUnder:
		x := f.pop()
		f.push(y)
		f.push(x)
		f.push(y)
	}
}

// playEach lays the next key down, or goes on where no key is left.
func (f *frame) playEach(to int) {
	if key, found := f.top().keys.next(); found {
		f.pushText(key)
		return
	}
	f.pop()
	f.at = to
}
