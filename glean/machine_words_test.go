package glean_test

// A second machine, which goes by the document's words: values are what Go has
// for them, faults are thrown ahead of any change, and each cell is held
// against the kind that its instruction takes.

import (
	"fmt"
	"math/big"
	"regexp"
	"slices"
	"strconv"
	"strings"

	"glean/api"
	"glean/glean"
)

// Values: nil is nothing, an int a number, a string a text, and this a numeral.
type numeral string

var (
	likeANumber   = regexp.MustCompile(`^[ \t\n]*[+-]?([0-9]+)[ \t\n]*$`)
	leadingNumber = regexp.MustCompile(`^[ \t\n]*([+-]?[0-9]+)`)
	fieldOfText   = regexp.MustCompile(`[^ \t\n]+`)
)

var greatest = big.NewInt(1000000000)

// whatWasRead is a text that was read, as a value.
func whatWasRead(text string) any {
	if found := likeANumber.FindStringSubmatch(text); found != nil {
		if n, _ := new(big.Int).SetString(found[1], 10); n.Cmp(greatest) <= 0 {
			return numeral(text)
		}
	}
	return text
}

func textOf(v any) string {
	switch v := v.(type) {
	case int:
		return fmt.Sprintf("%d", v)
	case string:
		return v
	case numeral:
		return string(v)
	}
	return ""
}

func numberOf(v any) int {
	if n, ok := v.(int); ok {
		return n
	}
	found := leadingNumber.FindStringSubmatch(textOf(v))
	if found == nil {
		return 0
	}
	n, _ := new(big.Int).SetString(found[1], 10)
	if n.CmpAbs(greatest) > 0 {
		return n.Sign() * 1000000000
	}
	return int(n.Int64())
}

func valueHolds(v any) bool {
	if text, ok := v.(string); ok {
		return len(text) > 0
	}
	return v != nil && numberOf(v) != 0
}

func compareValues(a, b any) int {
	_, aIsText := a.(string)
	_, bIsText := b.(string)
	if aIsText || bIsText {
		return strings.Compare(textOf(a), textOf(b))
	}
	return numberOf(a) - numberOf(b)
}

func oneIf(isSo bool) int {
	if isSo {
		return 1
	}
	return 0
}

// element is one of an array.
type element struct {
	key   string
	value any
}

// takenKeys is a cell of the kind Keys.
type takenKeys struct {
	array int
	keys  []string
}

type wordsFrame struct {
	steps  map[int]step
	at     int
	stack  []any
	locals map[int]any
}

// ended is thrown by an instruction that ends the run.
type ended int

type wordsMachine struct {
	api.State
	m       api.Module
	steps   map[int]map[int]step // of the functions that have begun once
	records []string
	draws   []int
	nr      int
	record  string
	fields  []string
	globals map[int]any
	arrays  map[int][]element
	entry   int
	frames  []*wordsFrame
	played  map[string]int // by name, how often
}

func openByTheWords(m api.Module, records []string, draws []int) *wordsMachine {
	w := &wordsMachine{m: m, records: records, draws: draws, steps: map[int]map[int]step{}, globals: map[int]any{}, arrays: map[int][]element{}, played: map[string]int{}}
	w.begin(0)
	return w
}

func (w *wordsMachine) begin(function int, arguments ...any) {
	if w.steps[function] == nil {
		w.steps[function] = readByTheWords(w.m, function)
	}
	f := &wordsFrame{steps: w.steps[function], locals: map[int]any{}}
	for i, a := range arguments {
		f.locals[i] = a
	}
	w.frames = append(w.frames, f)
}

func (w *wordsMachine) frame() *wordsFrame { return w.frames[len(w.frames)-1] }

// step plays one instruction, and throws what may not be.
func (w *wordsMachine) step() {
	if w.Status != api.StGoing {
		return
	}
	w.Used++
	f := w.frame()
	s := f.steps[f.at]
	w.played[s.name]++
	takes := takesOf(w.m, s)
	cells := slices.Clone(f.stack[len(f.stack)-len(takes):])
	for i := range cells {
		if !isOfKind(cells[i], takes[i]) {
			panic(fmt.Sprintf("%s finds %v where it takes %c", s.name, cells[i], takes[i]))
		}
	}
	defer func() {
		switch e := recover().(type) {
		case nil:
		case ended:
			w.Status = int(e)
		default:
			panic(e)
		}
	}()
	left := w.play(s, cells)
	f.stack = append(f.stack[:len(f.stack)-len(takes)], left...)
	if s.name != "jump" && s.name != "jz" && s.name != "each" {
		f.at = s.behind
	}
	w.leaveOrGoOn(s, cells)
}

// isOfKind tells whether a cell may be what an instruction takes.
func isOfKind(cell any, kind byte) bool {
	switch cell.(type) {
	case int:
		return mayBe('N', kind)
	case string:
		return mayBe('T', kind)
	case *takenKeys:
		return mayBe('K', kind)
	}
	return mayBe('A', kind)
}

// leaveOrGoOn is what instructions do to functions, behind all else.
func (w *wordsMachine) leaveOrGoOn(s step, cells []any) {
	switch s.name {
	case "call":
		w.begin(s.operands[0], cells...)
	case "ret":
		w.frames = w.frames[:len(w.frames)-1]
		w.frame().stack = append(w.frame().stack, cells[0])
	case "end":
		w.frames = nil
		if w.entry == 2 {
			panic(ended(api.StEnded))
		}
		w.entry = 2
		if w.readRecord() == 1 {
			w.entry = 1
		}
		w.begin(w.entry)
	}
}

func (w *wordsMachine) readRecord() int {
	if len(w.records) == 0 {
		return 0
	}
	w.setRecord(w.records[0])
	w.records = w.records[1:]
	w.nr++
	return 1
}

func (w *wordsMachine) setRecord(text string) {
	w.record, w.fields = text, fieldOfText.FindAllString(text, -1)
}

func endIf(isSo bool, status int) {
	if isSo {
		panic(ended(status))
	}
}

// play does what an instruction does, and tells what it leaves.
func (w *wordsMachine) play(s step, c []any) []any {
	f := w.frame()
	operand := 0
	if len(s.operands) > 0 {
		operand = s.operands[0]
	}
	switch s.name {
	case "num":
		if operand%2 == 1 {
			return []any{-(operand + 1) / 2}
		}
		return []any{operand / 2}
	case "str":
		return []any{w.m.Texts[operand]}
	case "nil":
		return []any{nil}
	case "load":
		return []any{f.locals[operand]}
	case "store":
		f.locals[operand] = c[0]
	case "gload":
		return []any{w.globals[operand]}
	case "gstore":
		w.globals[operand] = c[0]
	case "field", "setfield", "nf", "nr", "getline", "draw":
		return w.playRecord(s.name, c)
	case "aget", "aset", "ain", "adel", "aclear", "keys", "each":
		return w.playArray(s, operand, c)
	case "add", "sub", "mul", "div", "mod", "neg", "not":
		return []any{sumByTheWords(s.name, c)}
	case "lt", "le", "eq", "ne", "gt", "ge":
		return []any{compareByTheWords(s.name, compareValues(c[0], c[1]))}
	case "tonum":
		return []any{numberOf(c[0])}
	case "totext":
		return []any{textOf(c[0])}
	case "test":
		return []any{oneIf(valueHolds(c[0]))}
	case "cat", "find", "span", "swap", "split", "len", "part", "index":
		return w.playText(s, c)
	case "print":
		w.print(c)
	case "dup":
		return []any{c[0], c[0]}
	case "under":
		return []any{c[1], c[0], c[1]}
	case "jump":
		f.at = operand
	case "jz":
		f.at = s.behind
		if c[0] == 0 {
			f.at = operand
		}
	case "call":
		endIf(len(w.frames)-1 == 20, api.StDepth)
	case "exit":
		w.Code = c[0].(int)
		panic(ended(api.StExit))
	}
	return nil
}

func (w *wordsMachine) playRecord(name string, c []any) []any {
	switch name {
	case "field":
		n := c[0].(int)
		endIf(n < 0, api.StField)
		if n == 0 {
			return []any{whatWasRead(w.record)}
		}
		if n > len(w.fields) {
			return []any{nil}
		}
		return []any{whatWasRead(w.fields[n-1])}
	case "setfield":
		w.setField(c[0].(int), textOf(c[1]))
		return nil
	case "nf":
		return []any{len(w.fields)}
	case "nr":
		return []any{w.nr}
	case "getline":
		return []any{w.readRecord()}
	}
	if len(w.draws) == 0 {
		return []any{0}
	}
	draw := w.draws[0]
	w.draws = w.draws[1:]
	return []any{draw}
}

func (w *wordsMachine) setField(n int, text string) {
	endIf(n < 0 || n > 50, api.StField)
	if n == 0 {
		w.setRecord(text)
		return
	}
	fields := slices.Clone(w.fields)
	for len(fields) < n {
		fields = append(fields, "")
	}
	fields[n-1] = text
	record := strings.Join(fields, " ")
	endIf(len(record) > 100, api.StLong)
	w.record, w.fields = record, fields
}

func sumByTheWords(name string, c []any) int {
	x := c[0].(int)
	y := c[len(c)-1].(int)
	var out int
	switch name {
	case "add":
		out = x + y
	case "sub":
		out = x - y
	case "mul":
		out = x * y
	case "neg":
		return -x
	case "not":
		return oneIf(x == 0)
	default:
		endIf(y == 0, api.StZero)
		quotient := new(big.Int).Quo(big.NewInt(int64(x)), big.NewInt(int64(y)))
		out = int(quotient.Int64())
		if name == "mod" {
			out = x - y*out
		}
	}
	endIf(out < -1000000000 || out > 1000000000, api.StRange)
	return out
}

func compareByTheWords(name string, order int) int {
	return oneIf(map[string]bool{"lt": order < 0, "le": order <= 0, "eq": order == 0, "ne": order != 0, "gt": order > 0, "ge": order >= 0}[name])
}

func (w *wordsMachine) at(array int, key string) int {
	return slices.IndexFunc(w.arrays[array], func(e element) bool { return e.key == key })
}

func (w *wordsMachine) playArray(s step, a int, c []any) []any {
	switch s.name {
	case "aget":
		at := w.at(a, c[0].(string))
		if at < 0 {
			w.set(a, c[0].(string), nil)
			return []any{nil}
		}
		return []any{w.arrays[a][at].value}
	case "aset":
		w.set(a, c[0].(string), c[1])
	case "ain":
		return []any{oneIf(w.at(a, c[0].(string)) >= 0)}
	case "adel":
		w.arrays[a] = slices.DeleteFunc(w.arrays[a], func(e element) bool { return e.key == c[0] })
	case "aclear":
		w.arrays[a] = nil
	case "keys":
		return []any{&takenKeys{a, w.keys(a)}}
	case "each":
		return w.each(s, c[0].(*takenKeys))
	}
	return nil
}

func (w *wordsMachine) each(s step, taken *takenKeys) []any {
	f := w.frame()
	for i, key := range taken.keys {
		if w.at(taken.array, key) >= 0 {
			f.at = s.behind
			return []any{&takenKeys{taken.array, taken.keys[i+1:]}, key}
		}
	}
	f.at = s.operands[0]
	return nil
}

func (w *wordsMachine) set(a int, key string, value any) {
	at := w.at(a, key)
	if at >= 0 {
		w.arrays[a][at].value = value
		return
	}
	endIf(len(w.arrays[a]) == 30, api.StFull)
	w.arrays[a] = append(w.arrays[a], element{key, value})
}

func (w *wordsMachine) keys(a int) []string {
	var out []string
	for _, e := range w.arrays[a] {
		out = append(out, e.key)
	}
	return out
}

func (w *wordsMachine) playText(s step, c []any) []any {
	text := c[0].(string)
	switch s.name {
	case "cat":
		out := text + c[1].(string)
		endIf(len(out) > 100, api.StLong)
		return []any{out}
	case "find":
		place, _, _ := glean.Find(w.m.Patterns[s.operands[0]], text, 0)
		return []any{place + 1}
	case "span":
		place, length, _ := glean.Find(w.m.Patterns[s.operands[0]], text, 0)
		return []any{length - oneIf(place < 0)}
	case "swap":
		out, _ := glean.Swap(w.m.Patterns[s.operands[0]], text, c[1].(string))
		endIf(len(out) > 100, api.StLong)
		return []any{out}
	case "split":
		pieces, _ := glean.Split(w.m.Patterns[s.operands[1]], text)
		endIf(len(pieces) > 30, api.StFull)
		w.arrays[s.operands[0]] = nil
		for i, piece := range pieces {
			w.set(s.operands[0], strconv.Itoa(i+1), whatWasRead(piece))
		}
		return []any{len(pieces)}
	case "part":
		m, n := c[1].(int), c[2].(int)
		out := ""
		for i := range len(text) {
			if i+1 >= m && i+1 < m+n {
				out += text[i : i+1]
			}
		}
		return []any{out}
	case "index":
		for i := range len(text) + 1 {
			if strings.HasPrefix(text[i:], c[1].(string)) {
				return []any{i + 1}
			}
		}
		return []any{0}
	}
	return []any{len(text)}
}

func (w *wordsMachine) print(c []any) {
	out := w.Output
	for i, text := range c {
		if i > 0 {
			out += " "
		}
		out += text.(string)
	}
	out += "\n"
	endIf(len(out) > 1000, api.StOutput)
	w.Output = out
}
