package machine

import (
	"strings"

	"glean/api"
	"glean/code"
	"glean/values"
)

// play plays one instruction (but for end), and tells how the run stands then.
// The table's numbers go by groups, and each group has a function of its own.
// One that ends the run by a fault has done nothing but take its cells off the
// stack: nobody can ask for them any more.
func (m *Machine) play(one code.Instruction) int {
	f := m.frame()
	switch op := one.Op; {
	case op <= api.OpGstore:
		m.playVariable(f, one)
	case op <= api.OpNr:
		return m.playRecord(f, op)
	case op == api.OpEach:
		f.playEach(one.To)
	case op <= api.OpKeys:
		return m.playArray(f, one)
	case op <= api.OpMod:
		return f.playNumbers(op)
	case op == api.OpCat:
		return f.playCat()
	case op <= api.OpTest:
		f.playOne(op)
	case op <= api.OpGe:
		f.playCompare(op)
	case op <= api.OpSplit:
		return m.playPattern(f, one)
	case op <= api.OpIndex:
		f.playText(op)
	case op <= api.OpPrint:
		return m.playInAndOut(f, one)
	case op <= api.OpDrop:
		f.playCells(op)
	default:
		return m.playFlow(f, one)
	}
	return api.StGoing
}

// playVariable: num, str, nil, load, store, gload, gstore.
func (m *Machine) playVariable(f *frame, one code.Instruction) {
	switch i := one.Operands[0]; one.Op {
	case api.OpNum:
		f.pushNumber(signed(i))
	case api.OpStr:
		f.pushText(m.texts[i])
	case api.OpNil:
		f.push(values.Value{})
	case api.OpLoad:
		f.push(f.locals[i])
	case api.OpStore:
		f.locals[i] = f.pop()
	case api.OpGload:
		f.push(m.globals[i])
	case api.OpGstore:
		m.globals[i] = f.pop()
	}
}

// signed is the number that an operand of num says.
func signed(operand int) int {
	if operand%2 == 0 {
		return operand / 2
	}
	return -(operand + 1) / 2
}

// playRecord: field, setfield, nf, nr.
func (m *Machine) playRecord(f *frame, op byte) int {
	switch op {
	case api.OpField:
		n := f.popNumber()
		if n < 0 {
			return api.StField
		}
		f.push(m.record.field(n))
	case api.OpSetfield:
		text := f.popText()
		return m.setField(f.popNumber(), text)
	case api.OpNf:
		f.pushNumber(len(m.record.fields))
	case api.OpNr:
		f.pushNumber(m.read)
	}
	return api.StGoing
}

func (m *Machine) setField(n int, text string) int {
	if n < 0 || n > api.MaxFields {
		return api.StField
	}
	changed := m.record.with(n, text)
	if isLong(changed.text) {
		return api.StLong
	}
	m.record = changed
	return api.StGoing
}

// playArray: aget, aset, ain, adel, aclear, keys.
func (m *Machine) playArray(f *frame, one code.Instruction) int {
	switch a := &m.arrays[one.Operands[0]]; one.Op {
	case api.OpAget:
		key := f.popText()
		if !a.takes(key) {
			return api.StFull
		}
		f.push(a.lookUp(key))
	case api.OpAset:
		value := f.pop()
		key := f.popText()
		if !a.takes(key) {
			return api.StFull
		}
		a.set(key, value)
	case api.OpAin:
		f.pushTruth(a.has(f.popText()))
	case api.OpAdel:
		a.remove(f.popText())
	case api.OpAclear:
		a.empty()
	case api.OpKeys:
		f.pushKeys(&walk{array: a, left: a.keys()})
	}
	return api.StGoing
}

// playPattern: find, span, swap, split.
func (m *Machine) playPattern(f *frame, one code.Instruction) int {
	text := f.popText()
	switch i := one.Operands[0]; one.Op {
	case api.OpFind:
		place, _ := m.patterns[i].Find(text, 0)
		f.pushNumber(place + 1)
	case api.OpSpan:
		place, length := m.patterns[i].Find(text, 0)
		if place < 0 {
			length = -1
		}
		f.pushNumber(length)
	case api.OpSwap:
		out := m.patterns[i].Swap(f.popText(), text)
		if isLong(out) {
			return api.StLong
		}
		f.pushText(out)
	case api.OpSplit:
		pieces := m.patterns[one.Operands[1]].Split(text)
		if len(pieces) > api.MaxElements {
			return api.StFull
		}
		m.arrays[i].fill(pieces)
		f.pushNumber(len(pieces))
	}
	return api.StGoing
}

// playInAndOut: getline, draw, print.
func (m *Machine) playInAndOut(f *frame, one code.Instruction) int {
	switch one.Op {
	case api.OpGetline:
		f.pushTruth(m.readRecord())
	case api.OpDraw:
		f.pushNumber(m.draw())
	case api.OpPrint:
		line := strings.Join(f.popTexts(one.Operands[0]), " ") + "\n"
		if len(m.state.Output)+len(line) > api.MaxOutput {
			return api.StOutput
		}
		m.state.Output += line
	}
	return api.StGoing
}

// draw tells the next draw; 0, if none is left.
func (m *Machine) draw() int {
	if len(m.draws) == 0 {
		return 0
	}
	next := m.draws[0]
	m.draws = m.draws[1:]
	return next
}

// playFlow: jump, jz, call, ret, exit.
func (m *Machine) playFlow(f *frame, one code.Instruction) int {
	switch one.Op {
	case api.OpJump:
		f.at = one.To
	case api.OpJz:
		if f.popNumber() == 0 {
			f.at = one.To
		}
	case api.OpCall:
		return m.call(one.Operands[0])
	case api.OpRet:
		m.leave()
	case api.OpExit:
		m.state.Code = f.popNumber()
		return api.StExit
	}
	return api.StGoing
}
