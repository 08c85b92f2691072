package machine

import (
	"glean/api"
	"glean/code"
)

// Go plays so many instructions, or fewer if the run ends. Between any two it
// may stop: what is to come hangs on the machine alone.
func (m *Machine) Go(n int) {
	var one code.Instruction
	status := m.state.Status
	if status != api.StGoing {
		goto end
	}

fetch:
	if n == 0 {
		return
	}
	n--
	m.state.Used++
	one = m.frame().next()
	if one.Op == api.OpEnd {
		goto nextFunction
	}
	goto play

play:
	status = m.play(one)
	if status != api.StGoing {
		goto end
	}
	goto fetch

nextFunction:
	if m.entry == last {
		status = api.StEnded
		goto end
	}
	m.nextFunction()
	goto fetch

end:
	m.state.Status = status
}

// frame is that of the function that is on.
func (m *Machine) frame() *frame {
	return &m.frames[len(m.frames)-1]
}

// begin begins a function that is played by itself.
func (m *Machine) begin(entry int) {
	m.entry = entry
	m.frames = []frame{{code: m.functions[entry].code}}
}

// nextFunction begins what comes behind a function that is not the last.
func (m *Machine) nextFunction() {
	if m.readRecord() {
		m.begin(forRecord)
	} else {
		m.begin(last)
	}
}

// readRecord reads the next record, if one is left.
func (m *Machine) readRecord() bool {
	if len(m.records) == 0 {
		return false
	}
	m.record = newRecord(m.records[0])
	m.records = m.records[1:]
	m.read++
	return true
}

// call begins a function within the one that is on. The first frame is not one
// of a call: so there is one frame more than calls are under way.
func (m *Machine) call(number int) int {
	if len(m.frames) > api.MaxDepth {
		return api.StDepth
	}
	called, caller := m.functions[number], m.frame()
	next := frame{code: called.code}
	for i := called.params - 1; i >= 0; i-- {
		next.locals[i] = caller.pop()
	}
	m.frames = append(m.frames, next)
	return api.StGoing
}

// leave ends a function that was called.
func (m *Machine) leave() {
	value := m.frame().pop()
	m.frames = m.frames[:len(m.frames)-1]
	m.frame().push(value)
}
