package code

import "glean/api"

// Many cells lie in one word, so that a whole stack meets another in a few
// steps: stacks are high, and may meet often.
const (
	cellBits = 4
	cellMask = 1<<cellBits - 1
	perWord  = 64 / cellBits
	words    = (api.MaxHeight + perWord - 1) / perWord
)

// stack is a stack of kinds. The bits above its height are 0. It is wrong if
// ever something was not there that was taken, or it became too high.
type stack struct {
	height int
	wrong  bool
	cells  [words]uint64
}

// push lays a cell on the top.
func (s *stack) push(k kind) {
	if s.height == api.MaxHeight {
		s.wrong = true
		return
	}
	s.cells[s.height/perWord] |= uint64(k) << (s.height % perWord * cellBits)
	s.height++
}

// pop takes the top cell, which must be of a kind or one below it.
func (s *stack) pop(wanted kind) kind {
	if s.height == 0 {
		s.wrong = true
		return wanted
	}
	s.height--
	word, shift := &s.cells[s.height/perWord], s.height%perWord*cellBits
	found := kind(*word >> shift & cellMask)
	*word &^= cellMask << shift
	s.wrong = s.wrong || found&^wanted != 0
	return found
}

// take takes a list of cells, of which the last is the top one.
func (s *stack) take(list string) {
	for i := len(list) - 1; i >= 0; i-- {
		s.pop(list[i])
	}
}

// leave lays a list of cells down, the last on the top.
func (s *stack) leave(list string) {
	for i := range len(list) {
		s.push(list[i])
	}
}

// meet takes the kinds of another stack, which is as high, in; and tells
// whether that changed anything.
func (s *stack) meet(other *stack) bool {
	changed := false
	for i := range (s.height + perWord - 1) / perWord {
		both := s.cells[i] | other.cells[i]
		changed = changed || both != s.cells[i]
		s.cells[i] = both
	}
	return changed
}
