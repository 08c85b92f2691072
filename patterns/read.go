package patterns

import "glean/api"

// none is what stands where no byte is.
const none = -1

// reader goes through a text that is to be a pattern. Once a fault is found
// it sees no byte any more, so at stays the place of the fault.
type reader struct {
	text  string
	at    int
	fault bool
	atoms int
	out   *Pattern
}

// Read reads a pattern; with ErrPattern, the place of the first byte that
// cannot stand there.
func Read(text string) (*Pattern, int, api.Errno) {
	if len(text) > api.MaxPattern {
		return nil, 0, api.ErrLong
	}
	r := reader{text: text, out: &Pattern{}}
	r.out.whole = r.alternatives()
	if r.fault || r.at < len(text) {
		return nil, r.at, api.ErrPattern
	}
	return r.out, 0, api.OK
}

// peek tells the byte that comes next, or none.
func (r *reader) peek() int {
	if r.fault || r.at >= len(r.text) {
		return none
	}
	return int(r.text[r.at])
}

// fail says that the byte that comes next cannot stand there.
func (r *reader) fail() {
	r.fault = true
}

// skip passes over this byte, if it is the next one.
func (r *reader) skip(b int) bool {
	if r.peek() != b {
		return false
	}
	r.at++
	return true
}

// need passes over this byte, which must be the next one.
func (r *reader) need(b int) {
	if !r.skip(b) {
		r.fail()
	}
}

func (r *reader) alternatives() piece {
	out := r.sequence()
	for r.skip('|') {
		out = either(out, r.sequence())
	}
	return out
}

func (r *reader) sequence() piece {
	out := nothing()
	for {
		switch r.peek() {
		case none, ')', '|', '*', '+', '?':
			// What cannot stand here is told by whoever waits for what may.
			return out
		}
		out = r.out.join(out, r.part())
	}
}

func (r *reader) part() piece {
	out := r.atom()
	for {
		switch r.peek() {
		case '*':
			r.out.repeat(out)
			out = either(out, nothing())
		case '+':
			r.out.repeat(out)
		case '?':
			out = either(out, nothing())
		default:
			return out
		}
		r.at++
	}
}

func (r *reader) atom() piece {
	switch r.peek() {
	case '(':
		r.at++
		out := r.alternatives()
		r.need(')')
		return out
	case '[':
		r.at++
		return r.class()
	case '.':
		r.at++
		return r.take(0, 255)
	case '^':
		r.at++
		return anchor(atBegin)
	case '$':
		r.at++
		return anchor(atEnd)
	}
	b := r.plain()
	return r.take(b, b)
}

// plain reads a byte, written as itself or behind a \.
func (r *reader) plain() int {
	r.skip('\\')
	b := r.peek()
	if b == none {
		r.fail()
		return 0
	}
	r.at++
	return b
}

// take makes an atom that takes the bytes from low to high.
func (r *reader) take(low, high int) piece {
	var bytes [256]bool
	for b := low; b <= high; b++ {
		bytes[b] = true
	}
	return r.takeOf(&bytes, true)
}

// takeOf makes an atom that takes the bytes that are in the list as wanted.
func (r *reader) takeOf(bytes *[256]bool, wanted bool) piece {
	self := set(1) << r.atoms
	r.atoms++
	for b, in := range bytes {
		if in == wanted {
			r.out.takes[b] |= self
		}
	}
	var out piece
	for spot := range out {
		out[spot] = edge{first: self, last: self}
	}
	return out
}

// class reads a class from behind its [.
func (r *reader) class() piece {
	var bytes [256]bool
	wanted := !r.skip('^')
	r.item(&bytes)
	for !r.fault && r.peek() != ']' {
		r.item(&bytes)
	}
	r.need(']')
	return r.takeOf(&bytes, wanted)
}

// item reads an item of a class and adds its bytes.
func (r *reader) item(bytes *[256]bool) {
	low := r.bound(0)
	high := low
	if r.peek() == '-' && !r.closes(r.at+1) {
		r.at++
		high = r.bound(low)
	}
	for b := low; b <= high; b++ {
		bytes[b] = true
	}
}

// closes tells whether a ] stands at the place.
func (r *reader) closes(place int) bool {
	return place < len(r.text) && r.text[place] == ']'
}

// bound reads a byte of an item, which must not be below least.
func (r *reader) bound(least int) int {
	if r.peek() == ']' {
		r.fail()
		return 0
	}
	r.skip('\\')
	b := r.peek()
	if b < least {
		r.fail()
		return 0
	}
	r.at++
	return b
}
