package code

import (
	"strings"

	"glean/api"
)

// flow finds the least stacks that can be given to a function's instructions:
// each is what all ways to its instruction leave there, and no more. If
// something goes wrong with these, it does with any others.
type flow struct {
	module  api.Module
	all     []Instruction
	stacks  []*stack // by instruction; nil as long as no way leads there
	waiting []bool   // by instruction: its stack is another than when it was passed
	more    bool     // something is waiting
	wrong   bool
}

// Check tells the first fault in the functions of a module that is within its
// limits: the function, the place, the error.
func Check(m api.Module) (int, int, api.Errno) {
	for function := range m.Funcs {
		all, place, errno := Read(m, function)
		if errno != api.OK {
			return function, place, errno
		}
		if couldGoWrong(m, all) {
			return function, 0, api.ErrFlow
		}
	}
	return 0, 0, api.OK
}

// couldGoWrong tells whether a function with these instructions could come to
// one that does not find what it takes, or does not know how to go on.
func couldGoWrong(m api.Module, all []Instruction) bool {
	f := flow{module: m, all: all, stacks: make([]*stack, len(all)), waiting: make([]bool, len(all))}
	f.goTo(0, &stack{})
	for f.more && !f.wrong {
		f.more = false
		f.round()
	}
	return f.wrong
}

// round passes all instructions that wait, in the order of the code: so what
// came together at one of them is carried on at once, however many came.
func (f *flow) round() {
	for i := range f.all {
		if f.waiting[i] && !f.wrong {
			f.waiting[i] = false
			f.pass(i)
		}
	}
}

// goTo lets a stack come to an instruction, where it meets what came before.
func (f *flow) goTo(i int, s *stack) {
	if i == len(f.all) || s.wrong {
		f.wrong = true
		return
	}
	known := f.stacks[i]
	if known != nil && known.height != s.height {
		f.wrong = true
		return
	}
	if known == nil {
		first := *s
		f.stacks[i] = &first
	} else if !known.meet(s) {
		return
	}
	f.waiting[i], f.more = true, true
}

// pass carries the stack of an instruction on to what may come next.
func (f *flow) pass(i int) {
	one, s := f.all[i], *f.stacks[i]
	f.change(&s, one)
	if s.wrong {
		f.wrong = true
		return
	}
	switch one.Op {
	case api.OpRet, api.OpEnd, api.OpExit:
	case api.OpJump:
		f.goTo(one.To, &s)
	case api.OpJz:
		f.goTo(one.To, &s)
		f.goTo(i+1, &s)
	case api.OpEach:
		f.goTo(one.To, &s)
		s.leave(keys + txt)
		f.goTo(i+1, &s)
	default:
		f.goTo(i+1, &s)
	}
}

// change does to a stack what an instruction does to it (each: if no key is
// left).
func (f *flow) change(s *stack, one Instruction) {
	switch one.Op {
	case api.OpDup:
		x := s.pop(value[0])
		s.push(x)
		s.push(x)
	case api.OpUnder:
		y := s.pop(value[0])
		x := s.pop(value[0])
		s.push(y)
		s.push(x)
		s.push(y)
	case api.OpPrint:
		s.take(strings.Repeat(txt, one.Operands[0]))
	case api.OpCall:
		s.take(strings.Repeat(value, f.module.Funcs[one.Operands[0]].Params))
		s.leave(value)
	default:
		takes, leaves := effect(one.Op)
		s.take(takes)
		s.leave(leaves)
	}
}
