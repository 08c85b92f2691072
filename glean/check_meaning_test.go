package glean_test

// These tests hold Check against another reading of the document: code could
// go wrong just if some way through it does, with the very kinds that come
// along this way, or if two ways come to one instruction with stacks that are
// not as high. (Each instruction that may find a kind may find those below it,
// and leaves of these nothing above; so stacks can be given just if no way
// goes wrong.) So all ways are gone, one by one, and nothing ever meets.

import (
	"math/rand/v2"
	"strconv"
	"strings"
	"testing"

	"glean/api"
	"glean/glean"
)

// step is an instruction as the words read it.
type step struct {
	row
	at, behind int // where it begins, where the next does
	operands   []int
}

// readByTheWords reads code; what is wrong is thrown.
func readByTheWords(m api.Module, function int) map[int]step {
	w := &wordsReader{b: m.Funcs[function].Code, end: len(m.Funcs[function].Code)}
	out := map[int]step{}
	for w.at < w.end {
		at := w.at
		op := int(w.b[at])
		w.must(op < len(table) && (op != 51 || function >= 3) && (op != 52 || function < 3), at, api.ErrOp)
		s := step{row: table[op], at: at}
		w.at++
		for i := range len(s.row.operands) {
			s.operands = append(s.operands, operandByTheWords(w, m, function, at, s.row.operands[i]))
		}
		s.behind = w.at
		out[at] = s
	}
	for at := range w.end {
		if s, ok := out[at]; ok && strings.Contains(s.row.operands, "@") {
			_, begins := out[s.operands[0]]
			w.must(begins, at, api.ErrJump)
		}
	}
	return out
}

func operandByTheWords(w *wordsReader, m api.Module, function, at int, letter byte) int {
	defer func() {
		if f := recover(); f != nil {
			panic(told{at, api.ErrOperand})
		}
	}()
	n := w.number()
	least, greatest := operandRange(m, function, letter)
	w.must(least <= n && n <= greatest, at, api.ErrOperand)
	return n
}

// way is a way that came to an instruction with this stack, a letter a cell.
type way struct {
	at    int
	stack string
}

// takesOf is what an instruction takes.
func takesOf(m api.Module, s step) string {
	switch s.name {
	case "print":
		return strings.Repeat("T", s.operands[0])
	case "call":
		return strings.Repeat("A", m.Funcs[s.operands[0]].Params)
	}
	return plainKinds(s.takes)
}

// goOn tells where a way goes on; false, if it goes wrong.
func goOn(m api.Module, s step, stack string) ([]way, bool) {
	takes := takesOf(m, s)
	rest := len(stack) - len(takes)
	if rest < 0 {
		return nil, false
	}
	found := stack[rest:]
	for i := range len(takes) {
		if !mayBe(found[i], takes[i]) {
			return nil, false
		}
	}
	left := stack[:rest] + leaves(s.row, found)
	switch s.name {
	case "ret", "end", "exit":
		return nil, true
	case "jump":
		return []way{{s.operands[0], left}}, true
	case "jz":
		return []way{{s.operands[0], left}, {s.behind, left}}, true
	case "each":
		return []way{{s.operands[0], left}, {s.behind, left + "KT"}}, true
	}
	return []way{{s.behind, left}}, true
}

// flowsByTheWords goes all ways.
func flowsByTheWords(m api.Module, steps map[int]step) bool {
	todo := []way{{}}
	seen := map[way]bool{{}: true}
	heights := map[int]int{0: 0}
	for len(todo) > 0 {
		w := todo[len(todo)-1]
		todo = todo[:len(todo)-1]
		s, ok := steps[w.at]
		if !ok {
			return false
		}
		next, ok := goOn(m, s, w.stack)
		if !ok {
			return false
		}
		for _, n := range next {
			if height, known := heights[n.at]; known && height != len(n.stack) || len(n.stack) > 1024 {
				return false
			}
			heights[n.at] = len(n.stack)
			if !seen[n] {
				seen[n] = true
				todo = append(todo, n)
			}
		}
	}
	return true
}

func functionByTheWords(m api.Module, function int) (at int, e api.Errno) {
	defer func() {
		switch f := recover().(type) {
		case nil:
		case told:
			at, e = f.at, f.e
		default:
			panic(f)
		}
	}()
	if !flowsByTheWords(m, readByTheWords(m, function)) {
		return 0, api.ErrFlow
	}
	return 0, api.OK
}

func checkByTheWords(m api.Module) (int, int, api.Errno) {
	for function := range m.Funcs {
		if at, e := functionByTheWords(m, function); e != api.OK {
			return function, at, e
		}
	}
	return 0, 0, api.OK
}

// holdCode asks Check and the words of the same module.
func holdCode(t *testing.T, m api.Module) api.Errno {
	t.Helper()
	wantF, wantAt, wantE := checkByTheWords(m)
	f, at, e := glean.Check(packed(t, m))
	if f != wantF || at != wantAt || e != wantE {
		t.Fatalf("Check of %+v = %d, %d, %d, want %d, %d, %d", m.Funcs, f, at, e, wantF, wantAt, wantE)
	}
	return e
}

// maker writes code that is often right: it keeps the stack of the way from
// the first instruction to the last.
type maker struct {
	r      *rand.Rand
	m      api.Module
	f      int
	steps  []step
	stacks []string // ahead of each step
	stack  string
}

// goes tells whether the stack has what an instruction takes, and does not
// become so high that the ways are too many.
func (k *maker) goes(s step) bool {
	next, ok := goOn(k.m, s, k.stack)
	return ok && (len(next) == 0 || len(next[len(next)-1].stack) < 7)
}

// any is an instruction with right operands; places come later.
func (k *maker) any() step {
	s := step{row: table[k.r.IntN(len(table))]}
	if k.r.IntN(3) == 0 {
		s.row = byName[[]string{"jz", "jz", "each", "keys", "dup", "under", "drop", "nf", "str", "nil"}[k.r.IntN(10)]]
	}
	for i := range len(s.row.operands) {
		least, greatest := operandRange(k.m, k.f, s.row.operands[i])
		if s.name == "print" {
			greatest = 2
		}
		s.operands = append(s.operands, least+k.r.IntN(greatest-least+1))
	}
	return s
}

// next lays one more instruction down.
func (k *maker) next() {
	s := k.any()
	wrong := k.r.IntN(100) == 0
	for !wrong && (!k.goes(s) || endsThere(s.row) && (k.r.IntN(4) > 0 || (k.f < 3) == (s.name == "ret"))) {
		s = k.any()
	}
	k.steps = append(k.steps, s)
	k.stacks = append(k.stacks, k.stack)
	next, ok := goOn(k.m, s, k.stack)
	if !ok || len(next) == 0 || s.name == "jump" {
		// Who comes here comes from elsewhere.
		k.stack = k.stacks[k.r.IntN(len(k.stacks))]
		return
	}
	k.stack = next[len(next)-1].stack
}

// text is what was laid down, with right operands and with places where the
// stack is as high as what comes there, nearly always.
func (k *maker) text() string {
	out := ""
	for i, s := range k.steps {
		out += "l" + strconv.Itoa(i) + ": " + s.name + " "
		for j, n := range s.operands {
			switch {
			case s.row.operands[j] == '@':
				out += k.target(s, k.stacks[i]) + " "
			case k.r.IntN(100) == 0:
				out += strconv.Itoa(n+k.r.IntN(4)) + " "
			default:
				out += strconv.Itoa(n) + " "
			}
		}
	}
	return out
}

func (k *maker) target(s step, stack string) string {
	if k.r.IntN(200) == 0 {
		return strconv.Itoa(k.r.IntN(100))
	}
	i := k.r.IntN(len(k.steps))
	next, ok := goOn(k.m, s, stack)
	for range 30 {
		if ok && len(k.stacks[i]) == len(next[0].stack) {
			break
		}
		i = k.r.IntN(len(k.steps))
	}
	return "l" + strconv.Itoa(i)
}

// randomCode is code for a function.
func randomCode(r *rand.Rand, m api.Module, function int) string {
	k := maker{r: r, m: m, f: function}
	for range 1 + r.IntN(14) {
		k.next()
	}
	return asm(k.text() + finish(function))
}

func TestCheckByTheWords(t *testing.T) {
	t.Parallel()
	r := rand.New(rand.NewPCG(5, 6))
	seen := map[api.Errno]int{}
	for range 15000 {
		m := codeModule(0, asm("end"))
		functions := []int{r.IntN(7), r.IntN(7)}
		for _, function := range functions {
			m.Funcs[function].Code = randomCode(r, m, function)
		}
		seen[holdCode(t, m)]++
		code := &m.Funcs[functions[0]].Code
		*code = spoil(r, *code)
		seen[holdCode(t, m)]++
	}
	for _, e := range []api.Errno{api.OK, api.ErrOp, api.ErrOperand, api.ErrJump, api.ErrFlow} {
		if seen[e] < 500 {
			t.Errorf("the error %d was met %d times: too few to say anything", e, seen[e])
		}
	}
}

// allCode goes through all code of so many of these instructions.
func allCode(parts []string, length int, yield func(string)) {
	if length == 0 {
		yield("")
		return
	}
	allCode(parts, length-1, func(text string) {
		for _, part := range parts {
			yield(text + part)
		}
	})
}

func TestCheckByTheWordsOfAllShortCode(t *testing.T) {
	t.Parallel()
	m := codeModule(0, "")
	m.Patterns, m.Funcs = m.Patterns[1:], m.Funcs[:4]
	hold := func(code string) {
		m.Funcs[0].Code = code
		holdCode(t, m)
	}
	var every []string
	for _, r := range table {
		every = append(every, withOperands(m, 0, r, -1, ""))
	}
	flow := []string{"\x09", "\x02", "\x01\x00", "\x10\x00", "\x17", "\x2d", "\x2e", "\x2f", "\x34"}
	for place := range 8 {
		for _, op := range []string{"jump", "jz", "each"} {
			if op != "jump" || place != 1 {
				flow = append(flow, asm(op+" "+strconv.Itoa(place)))
			}
		}
	}
	for length := range 4 {
		allCode(every, length, hold)
		allCode(flow, length, func(code string) { hold(code + "\x34") })
	}
	for a := range 256 {
		for b := range 256 {
			hold(string([]byte{byte(a), byte(b)}))
			hold("\x09\x01\x00" + string([]byte{byte(a), byte(b)}) + "\x34")
		}
	}
}
