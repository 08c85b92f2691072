// Package machine plays modules that were checked: it asks neither for the
// kinds nor for the number of the cells on a stack.
package machine

import (
	"slices"
	"strings"

	"glean/api"
	"glean/code"
	"glean/patterns"
	"glean/values"
)

// The functions that are played by themselves.
const (
	first = iota
	forRecord
	last
)

// function is a function of the module that is played.
type function struct {
	params int
	code   []code.Instruction
}

// Machine plays one module with one script.
type Machine struct {
	texts     []string
	patterns  []*patterns.Pattern
	functions []function

	records []string // those that are left
	draws   []int    // those that are left
	read    int      // how many records were read
	record  record
	globals []values.Value
	arrays  []array

	entry  int     // which of the functions that are played by themselves is on
	frames []frame // its own first, then those of the calls under way in it
	state  api.State
}

// IsScript tells whether these may be the records and draws of a run.
func IsScript(records []string, draws []int) bool {
	if len(records) > api.MaxRecords || len(draws) > api.MaxDraws {
		return false
	}
	return !slices.ContainsFunc(records, isLong) && !slices.ContainsFunc(draws, isBeyond)
}

// isLong tells whether this is longer than a text may be.
func isLong(text string) bool {
	return len(text) > api.MaxText
}

// isBeyond tells whether this is more or less than a number may be.
func isBeyond[N int | int64](n N) bool {
	return n < -api.MaxNumber || n > api.MaxNumber
}

// New makes a machine for a module that Check takes and a right script.
func New(m api.Module, records []string, draws []int) *Machine {
	out := &Machine{
		texts:   m.Texts,
		draws:   slices.Clone(draws),
		globals: make([]values.Value, m.Globals),
		arrays:  make([]array, m.Arrays),
	}
	for _, text := range records {
		out.records = append(out.records, strings.Clone(text))
	}
	for _, text := range m.Patterns {
		p, _, _ := patterns.Read(text)
		out.patterns = append(out.patterns, p)
	}
	for i, f := range m.Funcs {
		all, _, _ := code.Read(m, i)
		out.functions = append(out.functions, function{params: f.Params, code: all})
	}
	for i := range out.arrays {
		out.arrays[i] = newArray()
	}
	out.begin(first)
	return out
}

// Tell tells how the run stands.
func (m *Machine) Tell() api.State {
	return m.state
}

// Keys tells the keys of an array; false, if there is none of this number.
func (m *Machine) Keys(array int) ([]string, bool) {
	if array < 0 || array >= len(m.arrays) {
		return nil, false
	}
	return m.arrays[array].keys(), true
}
