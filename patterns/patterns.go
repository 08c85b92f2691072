// Package patterns reads patterns and finds what they match in a text.
//
// A pattern is kept as a graph of its atoms that take a byte: which of them
// may come first, which last, and which behind which. Whether ^ and $ hold
// hangs on the place alone, so the graph is kept once for each spot that a
// place can be; with that a text is gone through once, whatever the pattern.
package patterns

import (
	"math/bits"

	"glean/api"
)

// A spot says what ^ and $ find at a place: the sum of those that hold there.
const (
	atBegin = 1
	atEnd   = 2
	spots   = 4
)

// set holds atoms by their numbers; MaxPattern is below its number of bits.
type set uint64

// edge says how one gets into a piece of a pattern and out of it at one spot.
type edge struct {
	empty       bool // it matches from the place to the same place
	first, last set
}

// piece is what a piece of a pattern is to its neighbours.
type piece [spots]edge

// Pattern is a pattern that was read.
type Pattern struct {
	whole  piece
	takes  [256]set // the atoms that take this byte
	follow [spots][api.MaxPattern]set
}

// all goes through the atoms of a set.
func (s set) all(yield func(int) bool) {
	for rest := s; rest != 0; rest &= rest - 1 {
		if !yield(bits.TrailingZeros64(uint64(rest))) {
			return
		}
	}
}

// has tells whether an atom is in the set.
func (s set) has(atom int) bool {
	return s>>atom&1 != 0
}

// spotOf tells which spot a place of a text of this length is.
func spotOf(place, length int) int {
	spot := 0
	if place == 0 {
		spot += atBegin
	}
	if place == length {
		spot += atEnd
	}
	return spot
}

// nothing is the piece that matches the empty text, at every spot.
func nothing() piece {
	var out piece
	for spot := range out {
		out[spot].empty = true
	}
	return out
}

// anchor is the piece that matches the empty text where the mark holds.
func anchor(mark int) piece {
	var out piece
	for spot := range out {
		out[spot].empty = spot&mark != 0
	}
	return out
}

// either is the piece that matches what one of the two does.
func either(a, b piece) piece {
	for spot := range a {
		a[spot].empty = a[spot].empty || b[spot].empty
		a[spot].first |= b[spot].first
		a[spot].last |= b[spot].last
	}
	return a
}

// join is the piece of a and b behind it.
func (p *Pattern) join(a, b piece) piece {
	var out piece
	for spot := range out {
		p.tie(spot, a[spot].last, b[spot].first)
		out[spot] = joined(a[spot], b[spot])
	}
	return out
}

// joined is the edge of a and b behind it.
func joined(a, b edge) edge {
	out := edge{empty: a.empty && b.empty, first: a.first, last: b.last}
	if a.empty {
		out.first |= b.first
	}
	if b.empty {
		out.last |= a.last
	}
	return out
}

// repeat lets a piece come behind itself.
func (p *Pattern) repeat(a piece) {
	for spot := range a {
		p.tie(spot, a[spot].last, a[spot].first)
	}
}

// tie lets each of the atoms to come behind each of the atoms from.
func (p *Pattern) tie(spot int, from, to set) {
	for atom := range from.all {
		p.follow[spot][atom] |= to
	}
}
