// Package glean: small programs over records of text: compiled, checked, played: see DOC.md.
package glean

import (
	"glean/api"
	"glean/code"
	"glean/compiler"
	"glean/machine"
	"glean/modules"
	"glean/patterns"
	"glean/syntax"
)

// Look tells whether a text is a pattern; the place of the first byte that cannot stand there (P3).
func Look(pattern string) (int, api.Errno) {
	_, place, errno := patterns.Read(pattern)
	return place, errno
}

// Find tells the first match from a place on, and its length (P4).
func Find(pattern string, text string, from int) (int, int, api.Errno) {
	p, errno := readFor(pattern, text)
	if errno != api.OK {
		return 0, 0, errno
	}
	if from < 0 || from > len(text) {
		return 0, 0, api.ErrArg
	}
	place, length := p.Find(text, from)
	return place, length, api.OK
}

// Swap lays another text in the place of each match (P5).
func Swap(pattern string, with string, text string) (string, api.Errno) {
	p, errno := readFor(pattern, with, text)
	if errno != api.OK {
		return "", errno
	}
	return p.Swap(with, text), api.OK
}

// Split tells the pieces of a text between the matches (P6).
func Split(pattern string, text string) ([]string, api.Errno) {
	p, errno := readFor(pattern, text)
	if errno != api.OK {
		return nil, errno
	}
	return p.Split(text), api.OK
}

// readFor reads a pattern that is to be used with these texts. A text that is
// too long comes ahead of a pattern that is none.
func readFor(pattern string, texts ...string) (*patterns.Pattern, api.Errno) {
	for _, text := range texts {
		if len(text) > api.MaxText {
			return nil, api.ErrLong
		}
	}
	p, _, errno := patterns.Read(pattern)
	return p, errno
}

// Pack writes a module into bytes (P7).
func Pack(m api.Module) (string, api.Errno) { return modules.Pack(m) }

// Unpack reads a module; with an error, the place of it (P8).
func Unpack(b string) (api.Module, int, api.Errno) { return modules.Unpack(b) }

// Check tells whether a module's bytes may be played; with an error, the function and the place (P9).
func Check(b string) (int, int, api.Errno) {
	_, function, place, errno := checked(b)
	return function, place, errno
}

// checked reads a module that may be played; with an error, the function and
// the place.
func checked(b string) (api.Module, int, int, api.Errno) {
	m, place, errno := modules.Unpack(b)
	if errno != api.OK {
		return m, 0, place, errno
	}
	function, place, errno := code.Check(m)
	return m, function, place, errno
}

// Machine is a machine that plays a module.
type Machine struct {
	inner *machine.Machine
}

// Open makes a machine (P10).
func Open(b string, records []string, draws []int) (*Machine, api.Errno) {
	m, _, _, errno := checked(b)
	if errno != api.OK {
		return nil, errno
	}
	if !machine.IsScript(records, draws) {
		return nil, api.ErrScript
	}
	return &Machine{machine.New(m, records, draws)}, api.OK
}

// Go plays so many instructions (P11).
func (m *Machine) Go(n int) api.Errno {
	if n < 0 || n > api.MaxFuel {
		return api.ErrArg
	}
	m.inner.Go(n)
	return api.OK
}

// Tell tells how the run stands (P12).
func (m *Machine) Tell() api.State { return m.inner.Tell() }

// Keys tells the keys of an array (P12).
func (m *Machine) Keys(array int) ([]string, api.Errno) {
	keys, found := m.inner.Keys(array)
	if !found {
		return nil, api.ErrArg
	}
	return keys, api.OK
}

// Compile makes a module's bytes out of a source; with an error, the place of it (P14).
func Compile(source string) (string, int, api.Errno) {
	if len(source) > api.MaxSource {
		return "", 0, api.ErrLong
	}
	program, place, errno := syntax.Read(source)
	if errno != api.OK {
		return "", place, errno
	}
	b, errno := modules.Pack(compiler.Module(program))
	return b, 0, errno
}
