// Package code reads the code of a module's functions, and tells whether it
// could go wrong when it is played.
package code

import (
	"cmp"
	"slices"

	"glean/api"
	"glean/modules"
	"glean/numbers"
)

// Instruction is one instruction of a function, as it was read.
type Instruction struct {
	Op       byte
	Place    int // where it begins in the code
	Operands [maxOperands]int
	// To is, for an instruction that names a place, the number (in the list
	// of all) of the instruction that begins there.
	To int
}

// maxOperands is how many operands an instruction has at most; greatestOperand
// is the greatest that right code may have: that of the greatest number.
const (
	maxOperands     = 2
	greatestOperand = 2 * api.MaxNumber
)

// bounds are the least and the greatest number that an operand may be. They
// are of a kind that holds every number in bytes, as an int may not.
type bounds struct {
	low, high int64
}

func below(count int) bounds {
	return bounds{0, int64(count) - 1}
}

// Read reads the instructions of a function of a module that is within its
// limits; with an error, the place of the instruction that is at fault.
func Read(m api.Module, function int) ([]Instruction, int, api.Errno) {
	var all []Instruction
	text := m.Funcs[function].Code
	for at := 0; at < len(text); {
		one, length, errno := readOne(m, function, at)
		if errno != api.OK {
			return nil, at, errno
		}
		all = append(all, one)
		at += length
	}
	if place, errno := join(all); errno != api.OK {
		return nil, place, errno
	}
	return all, 0, api.OK
}

// readOne reads the instruction at a place, and tells how many bytes it has.
func readOne(m api.Module, function, place int) (Instruction, int, api.Errno) {
	text := m.Funcs[function].Code
	one := Instruction{Op: text[place], Place: place}
	if !mayStandIn(function, one.Op) {
		return Instruction{}, 0, api.ErrOp
	}
	at := place + 1
	for i, b := range operandsOf(m, function, one.Op) {
		operand, length := numbers.Read[int64](text[at:])
		if length == 0 || operand < b.low || operand > b.high {
			return Instruction{}, 0, api.ErrOperand
		}
		// A place above this is behind the code anyway, and an int holds it.
		one.Operands[i] = int(min(operand, greatestOperand))
		at += length
	}
	return one, at - place, api.OK
}

// mayStandIn tells whether this is an instruction's number, and of one that
// may stand in the function.
func mayStandIn(function int, op byte) bool {
	isEntry := function < modules.Entries
	switch op {
	case api.OpRet:
		return !isEntry
	case api.OpEnd:
		return isEntry
	}
	return op <= api.OpExit
}

// operandsOf tells the bounds of each operand of an instruction. A place may
// be any number until all instructions are read.
func operandsOf(m api.Module, function int, op byte) []bounds {
	switch op {
	case api.OpNum:
		return []bounds{{0, greatestOperand}}
	case api.OpStr:
		return []bounds{below(len(m.Texts))}
	case api.OpLoad, api.OpStore:
		return []bounds{below(m.Funcs[function].Locals)}
	case api.OpGload, api.OpGstore:
		return []bounds{below(m.Globals)}
	case api.OpAget, api.OpAset, api.OpAin, api.OpAdel, api.OpAclear, api.OpKeys:
		return []bounds{below(m.Arrays)}
	case api.OpFind, api.OpSpan, api.OpSwap:
		return []bounds{below(len(m.Patterns))}
	case api.OpSplit:
		return []bounds{below(m.Arrays), below(len(m.Patterns))}
	case api.OpPrint:
		return []bounds{{1, api.MaxTable}}
	case api.OpEach, api.OpJump, api.OpJz:
		return []bounds{{0, numbers.Greatest}}
	case api.OpCall:
		return []bounds{{modules.Entries, int64(len(m.Funcs)) - 1}}
	}
	return nil
}

// namesPlace tells whether the operand of an instruction is a place.
func namesPlace(op byte) bool {
	return op == api.OpEach || op == api.OpJump || op == api.OpJz
}

// join finds for each instruction that names a place the one that begins
// there; with ErrJump, the place of the first for which there is none.
func join(all []Instruction) (int, api.Errno) {
	for i := range all {
		one := &all[i]
		if !namesPlace(one.Op) {
			continue
		}
		to, found := slices.BinarySearchFunc(all, one.Operands[0], byPlace)
		if !found {
			return one.Place, api.ErrJump
		}
		one.To = to
	}
	return 0, api.OK
}

func byPlace(one Instruction, place int) int {
	return cmp.Compare(one.Place, place)
}
