package compiler

import (
	"slices"

	"glean/numbers"
)

// label is a place in code of which it is not known yet where it is.
type label int

// none is the label of an instruction that names no place.
const none label = -1

// line is an instruction on its way into code.
type line struct {
	op       byte
	operands []int
	to       label
}

// body is the code of a function on its way.
type body struct {
	lines  []line
	labels []int // by label: the line that it stands ahead of
}

// add adds an instruction.
func (b *body) add(op byte, operands ...int) {
	b.lines = append(b.lines, line{op, operands, none})
}

// addTo adds an instruction that names a place.
func (b *body) addTo(op byte, to label) {
	b.lines = append(b.lines, line{op, nil, to})
}

// newLabel makes a label, which must be laid down once.
func (b *body) newLabel() label {
	b.labels = append(b.labels, 0)
	return label(len(b.labels) - 1)
}

// lay lays a label down ahead of the line that comes next.
func (b *body) lay(l label) {
	b.labels[l] = len(b.lines)
}

// code tells the bytes. How long an instruction is hangs on the place that it
// names, and places hang on how long the instructions ahead are: so all places
// are taken for 0 at first, and grow until they are where they say.
func (b *body) code() string {
	places := make([]int, len(b.lines))
	for {
		out, next := b.write(places)
		if slices.Equal(next, places) {
			return string(out)
		}
		places = next
	}
}

// write writes the lines as if their places were these, and tells where they
// came to stand.
func (b *body) write(places []int) ([]byte, []int) {
	var out []byte
	stand := make([]int, 0, len(b.lines))
	for _, one := range b.lines {
		stand = append(stand, len(out))
		out = append(out, one.op)
		for _, operand := range one.operands {
			out = numbers.Append(out, operand)
		}
		if one.to != none {
			out = numbers.Append(out, places[b.labels[one.to]])
		}
	}
	return out, stand
}
