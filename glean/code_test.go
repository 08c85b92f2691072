package glean_test

// The document's table of instructions, and code written with its names.

import (
	"strconv"
	"strings"
	"testing"

	"glean/api"
	"glean/glean"
)

// row is a row of the table. Operands: n of num, t below T, l below L, g below
// G, a below A, p below P, @ a place, c of print, f of call. Kinds: N Num,
// T Txt, A Any, K Keys, J Junk; x and y are any of N, T, A. What print and call
// take hangs on the operand, and what each leaves on the way: see takesOf.
type row struct {
	op                            int
	name, operands, takes, leaves string
}

var table = []row{
	{0, "num", "n", "", "N"}, {1, "str", "t", "", "T"}, {2, "nil", "", "", "A"},
	{3, "load", "l", "", "A"}, {4, "store", "l", "A", ""}, {5, "gload", "g", "", "A"}, {6, "gstore", "g", "A", ""},
	{7, "field", "", "N", "A"}, {8, "setfield", "", "NA", ""}, {9, "nf", "", "", "N"}, {10, "nr", "", "", "N"},
	{11, "aget", "a", "T", "A"}, {12, "aset", "a", "TA", ""}, {13, "ain", "a", "T", "N"}, {14, "adel", "a", "T", ""}, {15, "aclear", "a", "", ""},
	{16, "keys", "a", "", "K"}, {17, "each", "@", "K", ""},
	{18, "add", "", "NN", "N"}, {19, "sub", "", "NN", "N"}, {20, "mul", "", "NN", "N"}, {21, "div", "", "NN", "N"}, {22, "mod", "", "NN", "N"},
	{23, "neg", "", "N", "N"}, {24, "not", "", "N", "N"}, {25, "cat", "", "TT", "T"},
	{26, "tonum", "", "A", "N"}, {27, "totext", "", "A", "T"}, {28, "test", "", "A", "N"},
	{29, "lt", "", "AA", "N"}, {30, "le", "", "AA", "N"}, {31, "eq", "", "AA", "N"}, {32, "ne", "", "AA", "N"}, {33, "gt", "", "AA", "N"}, {34, "ge", "", "AA", "N"},
	{35, "find", "p", "T", "N"}, {36, "span", "p", "T", "N"}, {37, "swap", "p", "TT", "T"}, {38, "split", "ap", "T", "N"},
	{39, "len", "", "T", "N"}, {40, "part", "", "TNN", "T"}, {41, "index", "", "TT", "N"},
	{42, "getline", "", "", "N"}, {43, "draw", "", "", "N"}, {44, "print", "c", "T", ""},
	{45, "dup", "", "x", "xx"}, {46, "under", "", "xy", "yxy"}, {47, "drop", "", "J", ""},
	{48, "jump", "@", "", ""}, {49, "jz", "@", "N", ""}, {50, "call", "f", "", "A"},
	{51, "ret", "", "A", ""}, {52, "end", "", "", ""}, {53, "exit", "", "N", ""},
}

// rowsByName is the table, by the names of the instructions.
func rowsByName() map[string]row {
	out := map[string]row{}
	for _, r := range table {
		out[r.name] = r
	}
	return out
}

var byName = rowsByName()

// operands that a function of the module around takes: the least, the greatest.
func operandRange(m api.Module, function int, letter byte) (int, int) {
	switch letter {
	case 'n':
		return 0, 2000000000
	case 't':
		return 0, len(m.Texts) - 1
	case 'l':
		return 0, m.Funcs[function].Locals - 1
	case 'g':
		return 0, m.Globals - 1
	case 'a':
		return 0, m.Arrays - 1
	case 'p':
		return 0, len(m.Patterns) - 1
	case 'c':
		return 1, 1000
	case 'f':
		return 3, len(m.Funcs) - 1
	}
	return 0, 1<<35 - 1
}

// asm writes code: names of the table, behind each its operands (numbers, or
// for a place a label), and labels (with a : behind).
func asm(text string) string {
	places := map[string]int{}
	for {
		out, now := asmWith(text, places)
		same := true
		for label, place := range now {
			same = same && places[label] == place
		}
		if same {
			return out
		}
		places = now
	}
}

// asmWith writes code with the labels at these places, and tells where they are.
func asmWith(text string, places map[string]int) (string, map[string]int) {
	var out strings.Builder
	now := map[string]int{}
	for _, word := range strings.Fields(text) {
		if label, ok := strings.CutSuffix(word, ":"); ok {
			now[label] = out.Len()
		} else if r, ok := byName[word]; ok {
			out.WriteByte(byte(r.op))
		} else if n, err := strconv.Atoi(word); err == nil {
			out.WriteString(num(n))
		} else {
			out.WriteString(num(places[word]))
		}
	}
	return out.String(), now
}

func times(n int, text string) string { return strings.Repeat(text+" ", n) }

// codeModule is a module with another number of everything (two patterns,
// three texts, four globals, five arrays, six locals in each entry, seven
// functions), and this code in one of its functions.
func codeModule(function int, code string) api.Module {
	end, ret := asm("end"), asm("nil ret")
	m := api.Module{Texts: []string{"a", "b", ""}, Patterns: []string{"a", "b*"}, Globals: 4, Arrays: 5, Funcs: []api.Func{
		{Locals: 6, Code: end}, {Locals: 6, Code: end}, {Locals: 6, Code: end},
		{Locals: 1, Code: ret}, {Params: 1, Locals: 3, Code: ret}, {Params: 2, Locals: 2, Code: ret}, {Params: 8, Locals: 16, Code: ret},
	}}
	m.Funcs[function].Code = code
	return m
}

// finish is how the code of a function may end, whatever is on the stack.
func finish(function int) string {
	if function < 3 {
		return "end "
	}
	return "nil ret "
}

// wantCheck asks Check of a module.
func wantCheck(t *testing.T, name string, m api.Module, function, place int, errno api.Errno) {
	t.Helper()
	b, e := glean.Pack(m)
	if e != api.OK {
		t.Fatalf("%s: Pack: %d", name, e)
	}
	if f, at, e := glean.Check(b); f != function || at != place || e != errno {
		t.Errorf("%s: Check = %d, %d, %d, want %d, %d, %d", name, f, at, e, function, place, errno)
	}
}

// wantCode asks Check of a module with this code in one of its functions.
func wantCode(t *testing.T, function int, text string, place int, errno api.Errno) {
	t.Helper()
	told := function
	if errno == api.OK {
		told = 0
	}
	name := text
	if len(name) > 200 {
		name = name[:100] + " .. " + name[len(name)-100:]
	}
	wantCheck(t, name, codeModule(function, asm(text)), told, place, errno)
}

// wantFlow asks whether code in function 0 could not go wrong.
func wantFlow(t *testing.T, right bool, text string) {
	t.Helper()
	if right {
		wantCode(t, 0, text, 0, api.OK)
	} else {
		wantCode(t, 0, text, 0, api.ErrFlow)
	}
}
