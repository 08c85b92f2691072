package machine

import (
	"glean/api"
	"glean/code"
	"glean/values"
)

// cell is a cell of a stack: a value, or keys.
type cell struct {
	value values.Value
	keys  *walk
}

// frame is a function that has begun: where it stands, what it has of its own.
type frame struct {
	code   []code.Instruction
	at     int
	locals [api.MaxLocals]values.Value
	stack  []cell
}

// next is the instruction at which the function stands; it stands at the one
// behind it then.
func (f *frame) next() code.Instruction {
	one := f.code[f.at]
	f.at++
	return one
}

func (f *frame) push(v values.Value) {
	f.stack = append(f.stack, cell{value: v})
}

func (f *frame) pushNumber(n int) {
	f.push(values.Number(n))
}

func (f *frame) pushTruth(isSo bool) {
	f.push(values.Truth(isSo))
}

func (f *frame) pushText(s string) {
	f.push(values.Text(s))
}

func (f *frame) pushKeys(w *walk) {
	f.stack = append(f.stack, cell{keys: w})
}

// top is the top cell, which stays.
func (f *frame) top() cell {
	return f.stack[len(f.stack)-1]
}

func (f *frame) pop() values.Value {
	v := f.top().value
	f.stack = f.stack[:len(f.stack)-1]
	return v
}

func (f *frame) popNumber() int {
	return f.pop().Number()
}

func (f *frame) popText() string {
	return f.pop().Text()
}

// popTexts takes so many texts, and tells them in the order in which they were
// laid down.
func (f *frame) popTexts(count int) []string {
	texts := make([]string, count)
	for i := range texts {
		texts[count-1-i] = f.popText()
	}
	return texts
}
