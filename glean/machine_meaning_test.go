package glean_test

// These tests play random modules on a machine and by the words, instruction
// by instruction.

import (
	"fmt"
	"math/rand/v2"
	"slices"
	"strings"
	"testing"

	"glean/api"
	"glean/glean"
)

// playModule is a module with something to play with.
func playModule() api.Module {
	m := codeModule(0, asm("end"))
	m.Texts = []string{"a", "b", "", "1", "2", "5", "0", "-0", " 07\t", "+3x", "-4 ", "+", "1,2,,+3", "x y z", "aabba", strings.Repeat("x", 60), strings.Repeat(", ", 16), strings.Repeat("7", 100), "99999999999", "\x00\xff"}
	m.Patterns = []string{",", "b*", "[0-9]+", "^a|x$", "", "[ ,]+"}
	m.Globals, m.Arrays = 3, 3
	return m
}

// writer writes code that is right as it is put together: parts that leave a
// cell of a kind, and statements that leave none.
type writer struct {
	r      *rand.Rand
	m      api.Module
	f      int
	labels int
	deep   int
}

func (w *writer) label() string {
	w.labels++
	return fmt.Sprintf("l%d", w.labels)
}

// operands are right ones for an instruction without a place.
func (w *writer) operands(r row) string {
	out := ""
	for i := range len(r.operands) {
		least, greatest := operandRange(w.m, w.f, r.operands[i])
		n := least + w.r.IntN(greatest-least+1)
		if r.operands[i] == 'n' {
			n = w.number()
		}
		out += fmt.Sprintf(" %d", n)
	}
	return out
}

// number is an operand of num, nearly always of a small number.
func (w *writer) number() int {
	switch w.r.IntN(30) {
	case 0:
		return 1999999995 + w.r.IntN(6)
	case 1:
		return 96 + w.r.IntN(8)
	case 2:
		return w.r.IntN(2000000001)
	}
	return w.r.IntN(12)
}

// makers are the instructions that leave just one cell of a kind, or below it.
func makers(kind string) (out []row) {
	for _, r := range table {
		if r.leaves == kind && r.name != "call" && r.name != "keys" || kind == "A" && (r.leaves == "N" || r.leaves == "T") {
			out = append(out, r)
		}
	}
	return out
}

// cell leaves a cell of a kind, or one below it.
func (w *writer) cell(kind byte) string {
	w.deep++
	defer func() { w.deep-- }()
	if w.deep > 4 {
		return map[byte]string{'N': "num 4 ", 'T': "str 0 ", 'A': "load 0 "}[kind]
	}
	if kind == 'A' && w.r.IntN(8) == 0 && w.f < 6 {
		return w.called()
	}
	all := makers(string([]byte{kind}))
	r := all[w.r.IntN(len(all))]
	if w.r.IntN(4) > 0 { // such as take nothing: else code grows too long
		for len(r.takes) > w.r.IntN(3) {
			r = all[w.r.IntN(len(all))]
		}
	}
	if (r.name == "div" || r.name == "mod") && w.r.IntN(5) > 0 { // else nearly all runs end there
		return w.cell('N') + fmt.Sprintf("num %d ", 1+w.r.IntN(9)) + r.name + " "
	}
	return w.cells(r.takes) + r.name + w.operands(r) + " "
}

func (w *writer) cells(kinds string) string {
	out := ""
	for i := range len(kinds) {
		out += w.cell(kinds[i])
	}
	return out
}

// called is a call of a function; of a later one, but now and then.
func (w *writer) called() string {
	f := max(3, w.f+1) + w.r.IntN(6-max(3, w.f+1)+1)
	if w.r.IntN(40) == 0 {
		f = 3 + w.r.IntN(4)
	}
	return w.cells(strings.Repeat("A", w.m.Funcs[f].Params)) + fmt.Sprintf("call %d ", f)
}

// stmt leaves the stack as it is.
func (w *writer) stmt() string {
	w.deep++
	defer func() { w.deep-- }()
	switch w.r.IntN(16) {
	case 0, 1, 2:
		n := 1 + w.r.IntN(3)
		return w.cells(strings.Repeat("T", n)) + fmt.Sprintf("print %d ", n)
	case 3:
		other, end := w.label(), w.label()
		return w.cell('N') + "jz " + other + " " + w.stmts() + "jump " + end + " " + other + ": " + w.stmts() + end + ": "
	case 4:
		return w.loop(w.cell('N')+"jz ", w.stmts())
	case 5, 6:
		return fmt.Sprintf("keys %d ", w.r.IntN(w.m.Arrays)) + w.loop("each ", w.ofKey()+w.stmts())
	case 7:
		return w.cells("AN") + "under gstore 0 drop drop "
	case 8:
		return w.cell('T') + "dup len drop print 1 "
	case 9:
		switch w.r.IntN(30) {
		case 0:
			other := w.label()
			return w.cell('N') + "jz " + other + " " + w.cell('N') + "exit " + other + ": "
		case 1:
			return w.many()
		}
		return w.cell('A') + "drop "
	}
	return w.puts()
}

// many lays many keys down, perhaps too many.
func (w *writer) many() string {
	out := ""
	a := w.r.IntN(w.m.Arrays)
	for i := range 25 + w.r.IntN(8) {
		out += fmt.Sprintf("num %d totext nil aset %d ", 2*i, a)
	}
	return out
}

// loop goes on until the test, which is to name a place, leads out of it.
func (w *writer) loop(test, body string) string {
	again, end := w.label(), w.label()
	return again + ": " + test + end + " " + body + "jump " + again + " " + end + ": "
}

// ofKey does something with a key that each laid down.
func (w *writer) ofKey() string {
	a := w.r.IntN(w.m.Arrays)
	switch w.r.IntN(4) {
	case 0:
		return fmt.Sprintf("dup adel %d %s aset %d ", a, w.cell('A'), w.r.IntN(w.m.Arrays))
	case 1:
		return fmt.Sprintf("str 3 cat %s aset %d ", w.cell('A'), a)
	}
	return "print 1 "
}

// puts lays a value somewhere, or takes keys out.
func (w *writer) puts() string {
	all := []string{"store", "gstore", "setfield", "aset", "aset", "aset", "adel", "aclear"}
	r := byName[all[w.r.IntN(len(all))]]
	return w.cells(r.takes) + r.name + w.operands(r) + " "
}

func (w *writer) stmts() string {
	if w.deep > 4 {
		return ""
	}
	out := ""
	for range w.r.IntN(5) {
		out += w.stmt()
	}
	return out
}

// randomProgram is a module of such code.
func randomProgram(r *rand.Rand) api.Module {
	m := playModule()
	for f := range m.Funcs {
		w := writer{r: r, m: m, f: f}
		text := w.stmts() + w.stmts()
		if f < 3 {
			text += "end"
		} else {
			text += w.cell('A') + "ret"
		}
		m.Funcs[f].Code = asm(text)
	}
	return m
}

// randomScript is a list of records and one of draws.
func randomScript(r *rand.Rand) (records []string, draws []int) {
	parts := []string{" ", " ", "\t", "\n", "\r", "a", "b", "x", ",", "1", "2", "10", "+3", "-4", "0", "1000000000", "1000000001", strings.Repeat("y", 30)}
	for range r.IntN(6) {
		text := ""
		for range r.IntN(8) {
			text += parts[r.IntN(len(parts))]
		}
		records = append(records, text[:min(len(text), 100)])
	}
	for range r.IntN(9) {
		draws = append(draws, []int{0, 1, -1, 2, 3, 7, 50, 100, 1000000000, -1000000000}[r.IntN(10)])
	}
	return records, draws
}

// holdRun plays a module on a machine and by the words, up to so many
// instructions.
func holdRun(t *testing.T, m api.Module, records []string, draws []int, fuel int) *wordsMachine {
	t.Helper()
	x, e := glean.Open(packed(t, m), records, draws)
	if e != api.OK {
		t.Fatalf("Open of %+v: %d", m, e)
	}
	w := openByTheWords(m, records, draws)
	for range fuel {
		f := w.frame()
		s := f.steps[f.at]
		w.step()
		if e := x.Go(1); e != api.OK {
			t.Fatalf("Go: %d", e)
		}
		if got := x.Tell(); got != w.State {
			t.Fatalf("behind %s %v (%v) of %+v with %q, %v: %+v, want %+v", s.name, s.operands, f.stack, m, records, draws, got, w.State)
		}
		for a := range m.Arrays {
			if got, e := x.Keys(a); !slices.Equal(got, w.keys(a)) || e != api.OK {
				t.Fatalf("behind %s %v of %+v with %q, %v: array %d has %q, want %q", s.name, s.operands, m, records, draws, a, got, w.keys(a))
			}
		}
		if w.Status != api.StGoing {
			break
		}
	}
	return w
}

func TestRunsByTheWords(t *testing.T) {
	t.Parallel()
	r := rand.New(rand.NewPCG(7, 8))
	seen, played := map[int]int{}, map[string]int{}
	for range 3000 {
		records, draws := randomScript(r)
		w := holdRun(t, randomProgram(r), records, draws, 2000)
		seen[w.Status]++
		for name, n := range w.played {
			played[name] += n
		}
	}
	for status := api.StGoing; status <= api.StDepth; status++ {
		if seen[status] < 10 {
			t.Errorf("the state %d was met %d times: too few to say anything", status, seen[status])
		}
	}
	for _, r := range table {
		if played[r.name] < 100 && r.name != "exit" {
			t.Errorf("%s was played %d times: too few to say anything", r.name, played[r.name])
		}
	}
}

// Code that goes any ways: whatever comes, each instruction finds what it takes
// (P13), or the words would throw.
func TestRunsByTheWordsOfAnyCode(t *testing.T) {
	t.Parallel()
	r := rand.New(rand.NewPCG(9, 10))
	runs, steps := 0, 0
	for range 6000 {
		m := playModule()
		for range 2 {
			function := r.IntN(len(m.Funcs))
			m.Funcs[function].Code = randomCode(r, m, function)
		}
		if _, _, e := glean.Check(packed(t, m)); e != api.OK {
			continue
		}
		records, draws := randomScript(r)
		runs++
		steps += holdRun(t, m, records, draws, 60).Used
	}
	if runs < 1000 || steps < 10000 {
		t.Errorf("%d runs of %d instructions: too few to say anything", runs, steps)
	}
}
