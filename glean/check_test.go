package glean_test

import (
	"fmt"
	"strconv"
	"strings"
	"testing"

	"glean/api"
	"glean/glean"
)

// lay is text that lays cells of these kinds down, in a way with labels of its
// own for those that need it.
func lay(kinds string, label string) string {
	out := ""
	for i := range len(kinds) {
		l := label + strconv.Itoa(i)
		switch kinds[i] {
		case 'N':
			out += "nf "
		case 'T':
			out += "str 0 "
		case 'A':
			out += "nil "
		case 'K':
			out += "keys 0 "
		case 'J':
			out += fmt.Sprintf("nf jz else%s keys 0 jump end%s else%s: nil end%s: ", l, l, l, l)
		}
	}
	return out
}

// mayBe tells whether an instruction that takes a kind may find another.
func mayBe(found, taken byte) bool {
	switch taken {
	case 'N', 'T', 'K':
		return found == taken
	case 'J':
		return true
	}
	return found == 'N' || found == 'T' || found == 'A'
}

// functionFor is one in which an instruction may stand.
func functionFor(r row) int {
	if r.name == "ret" {
		return 4
	}
	return 0
}

// call is text with an instruction, its operands the least ones; each has what
// it lays down for a key taken off again.
func call(r row) string {
	out := r.name + " "
	for i := range len(r.operands) {
		least, _ := operandRange(codeModule(0, ""), 0, r.operands[i])
		if r.operands[i] == '@' {
			out += "behind "
		} else {
			out += strconv.Itoa(least) + " "
		}
	}
	if r.name == "each" {
		out += "drop drop "
	}
	return out + "behind: "
}

// leaves is what an instruction leaves of kinds that it found.
func leaves(r row, found string) string {
	switch r.name {
	case "dup":
		return found + found
	case "under":
		return found[1:] + found
	}
	return r.leaves
}

// endsThere tells whether nothing comes next behind an instruction.
func endsThere(r row) bool {
	return r.name == "ret" || r.name == "end" || r.name == "exit"
}

// plainKinds are kinds as a row takes them, the x and y as Any.
func plainKinds(kinds string) string {
	return strings.ReplaceAll(strings.ReplaceAll(kinds, "x", "A"), "y", "A")
}

// Every instruction: what it may find.

func TestCheckTakesTheNumbersOfTheTable(t *testing.T) {
	for op := range 256 {
		code := string([]byte{byte(op)})
		for function := range 7 {
			isOp := op < len(table) && (op != 51 || function >= 3) && (op != 52 || function < 3)
			m := codeModule(function, asm(finish(function))+code)
			f, at, e := glean.Check(packed(t, m))
			if isOp && e == api.ErrOp || !isOp && (f != function || at != len(asm(finish(function))) || e != api.ErrOp) {
				t.Errorf("the byte %d in function %d: %d, %d, %d", op, function, f, at, e)
			}
		}
	}
	for op, r := range table {
		if r.op != op {
			t.Fatalf("the row %d is that of %d", op, r.op)
		}
	}
}

func packed(t *testing.T, m api.Module) string {
	t.Helper()
	b, e := glean.Pack(m)
	if e != api.OK {
		t.Fatalf("Pack: %d", e)
	}
	return b
}

func TestCheckTakesEachKindThatMayBeFound(t *testing.T) {
	for _, r := range table {
		function := functionFor(r)
		takes := plainKinds(r.takes)
		for i := range len(takes) {
			for _, found := range []byte("NTAKJ") {
				kinds := takes[:i] + string([]byte{found}) + takes[i+1:]
				want := api.OK
				if !mayBe(found, takes[i]) {
					want = api.ErrFlow
				}
				wantCode(t, function, lay(kinds, "k")+call(r)+finish(function), 0, want)
				wantCode(t, function, lay("KNT"+kinds, "k")+call(r)+finish(function), 0, want)
			}
		}
	}
}

func TestCheckTellsAStackThatIsTooLow(t *testing.T) {
	for _, r := range table {
		function := functionFor(r)
		takes := plainKinds(r.takes)
		for missing := range len(takes) + 1 {
			want := api.ErrFlow
			if missing == 0 {
				want = api.OK
			}
			wantCode(t, function, lay(takes[missing:], "k")+call(r)+finish(function), 0, want)
		}
	}
}

func TestCheckKnowsWhatIsLeft(t *testing.T) {
	// An instruction that takes just this kind, and leaves nothing or one cell.
	probes := map[byte]string{'N': "neg drop", 'T': "len drop", 'A': "tonum drop", 'K': "each gone drop drop gone:"}
	for _, r := range table {
		if endsThere(r) {
			continue
		}
		founds := []string{r.takes}
		switch r.takes {
		case "x":
			founds = []string{"N", "T", "A"}
		case "xy":
			founds = []string{"NN", "NT", "NA", "TN", "TT", "TA", "AN", "AT", "AA"}
		}
		for _, found := range founds {
			left := leaves(r, found)
			begin := lay(found, "k") + call(r)
			for depth := range len(left) {
				for kind, probe := range probes {
					wantFlow(t, mayBe(left[len(left)-1-depth], kind), begin+times(depth, "drop")+probe+" end")
				}
			}
			wantFlow(t, true, begin+times(len(left), "drop")+"end")
			wantFlow(t, false, begin+times(len(left)+1, "drop")+"end")
		}
	}
}

func TestCheckOfPrint(t *testing.T) {
	for _, n := range []int{1, 2, 3, 127, 128, 999, 1000} {
		print := fmt.Sprintf("print %d end", n)
		wantFlow(t, true, times(n, "str 1")+print)
		wantFlow(t, true, "keys 0 "+times(n, "str 1")+fmt.Sprintf("print %d drop end", n))
		wantFlow(t, false, times(n, "str 1")+fmt.Sprintf("print %d drop end", n))
		wantFlow(t, false, times(n-1, "str 1")+print)
		for _, other := range []string{"nf", "nil", "keys 0"} {
			wantFlow(t, false, other+" "+times(n-1, "str 1")+print)
			wantFlow(t, false, times(n-1, "str 1")+other+" "+print)
			wantFlow(t, true, other+" "+times(n, "str 1")+print)
		}
	}
}

func TestCheckOfCall(t *testing.T) {
	for f, params := range map[int]int{3: 0, 4: 1, 5: 2, 6: 8} {
		call := fmt.Sprintf("call %d ", f)
		for _, argument := range []string{"nil", "nf", "str 0"} {
			wantFlow(t, true, times(params, argument)+call+"tonum drop end")
			wantFlow(t, false, times(params, argument)+call+"neg end")
			wantFlow(t, false, times(params, argument)+call+"len end")
			wantFlow(t, false, times(params, argument)+call+"drop drop end")
			wantFlow(t, true, argument+" "+times(params, argument)+call+"drop drop end")
			if params > 0 {
				wantFlow(t, false, times(params-1, argument)+call+"end")
				wantFlow(t, false, "keys 0 "+times(params-1, argument)+call+"end")
				wantFlow(t, false, times(params-1, argument)+"keys 0 "+call+"end")
			}
		}
		wantCode(t, 3, times(params, "nil")+call+"ret", 0, api.OK) // function 3 of itself too
		wantCode(t, 1, times(params, "nil")+call+"end", 0, api.OK)
		wantCode(t, 6, times(params, "nil")+call+"drop ret", 0, api.ErrFlow)
	}
}

// Operands.

// withOperands is the code of an instruction with the least operands, but for
// one that stands as these bytes.
func withOperands(m api.Module, function int, r row, which int, bytes string) string {
	out := string([]byte{byte(r.op)})
	for i := range len(r.operands) {
		least, _ := operandRange(m, function, r.operands[i])
		if i == which {
			out += bytes
		} else {
			out += num(least)
		}
	}
	return out
}

// wantOperand asks of an instruction to which nothing leads, so that its
// operands alone are looked at.
func wantOperand(t *testing.T, function int, r row, which int, bytes, behind string, right bool) {
	t.Helper()
	m := codeModule(function, "")
	begin := asm(finish(function))
	m.Funcs[function].Code = begin + withOperands(m, function, r, which, bytes) + behind
	name := fmt.Sprintf("%s in function %d, the operand %d is %q", r.name, function, which, bytes)
	if right {
		wantCheck(t, name, m, 0, 0, api.OK)
	} else {
		wantCheck(t, name, m, function, len(begin), api.ErrOperand)
	}
}

func TestCheckHoldsOperandsAgainstTheTable(t *testing.T) {
	for _, r := range table {
		for which := range len(r.operands) {
			for function := range 7 {
				least, greatest := operandRange(codeModule(function, ""), function, r.operands[which])
				if r.operands[which] == '@' {
					wantOperand(t, function, r, which, num(0), "", true)
					continue
				}
				wantOperand(t, function, r, which, num(least), "", true)
				wantOperand(t, function, r, which, num(greatest), "", true)
				wantOperand(t, function, r, which, num(greatest+1), "", false)
				wantOperand(t, function, r, which, num(greatest+2), "", false)
				wantOperand(t, function, r, which, num(1<<32+least), "", false)
				wantOperand(t, function, r, which, num(1<<35-1), "", false)
				if least > 0 {
					wantOperand(t, function, r, which, num(least-1), "", false)
					wantOperand(t, function, r, which, num(0), "", false)
				}
			}
		}
	}
}

func TestCheckTellsOperandsThatAreNoNumbers(t *testing.T) {
	for _, r := range table {
		for which := range len(r.operands) {
			for _, function := range []int{0, 2, 6} {
				for _, none := range []string{"\x80\x00", "\x81\x00", "\x83\x80\x00", "\x80\x80\x80\x80\x00", "\x80\x80\x80\x80\x80\x01", "\xff\xff\xff\xff\xff\x01"} {
					wantOperand(t, function, r, which, none, "", false)
					wantOperand(t, function, r, which, none, asm(finish(function)), false)
				}
				m := codeModule(function, "")
				begin := asm(finish(function))
				whole := withOperands(m, function, r, which, "\x80\x80\x01")
				for cut := 1; cut < len(whole); cut++ {
					m.Funcs[function].Code = begin + whole[:cut]
					wantCheck(t, r.name+" that ends in its operands", m, function, len(begin), api.ErrOperand)
				}
			}
		}
	}
}

func TestCheckOfNothingToName(t *testing.T) {
	for _, r := range table {
		if !strings.ContainsAny(r.operands, "tlgapf") {
			continue
		}
		m := plainModule()
		m.Funcs[0].Code = asm("end ") + withOperands(m, 0, r, -1, "")
		wantCheck(t, r.name+" in a module of nothing", m, 0, 1, api.ErrOperand)
	}
}

func TestCheckHoldsLocalsAgainstTheFunction(t *testing.T) {
	m := codeModule(0, "")
	for function, f := range m.Funcs {
		for _, name := range []string{"load", "store"} {
			for local := range 18 {
				code := asm(fmt.Sprintf("%s %s %d", finish(function), name, local))
				if local < f.Locals {
					wantCheck(t, name, codeModule(function, code+asm("drop "+finish(function))), 0, 0, api.OK)
				} else {
					wantCheck(t, name, codeModule(function, code+asm("drop "+finish(function))), function, len(asm(finish(function))), api.ErrOperand)
				}
			}
		}
	}
}

func TestCheckOfNumbers(t *testing.T) {
	for n, right := range map[int]bool{0: true, 1: true, 1999999998: true, 1999999999: true, 2000000000: true, 2000000001: false, 2000000002: false, 1 << 31: false, 1<<35 - 1: false} {
		want := api.OK
		if !right {
			want = api.ErrOperand
		}
		wantCode(t, 0, fmt.Sprintf("num %d end", n), 0, want)
		if right {
			wantCode(t, 5, fmt.Sprintf("nil drop num %d ret", n), 0, want)
		} else {
			wantCode(t, 5, fmt.Sprintf("nil drop num %d ret", n), 2, want)
		}
	}
}

// Places.

func TestCheckTellsPlacesWhereNothingBegins(t *testing.T) {
	for _, name := range []string{"jump", "jz", "each"} {
		for _, function := range []int{0, 1, 2, 3, 6} {
			end := finish(function)
			behind := len(asm(end))
			code := fmt.Sprintf("%s %s %%d num 300 split 0 1 %s", end, name, end)
			starts := map[int]bool{0: true, behind: true, behind + 2: true, behind + 5: true, behind + 8: true}
			length := len(asm(fmt.Sprintf(code, 0)))
			if function >= 3 {
				starts[1], starts[behind+9] = true, true
			}
			for place := range length + 3 {
				if starts[place] {
					wantCode(t, function, fmt.Sprintf(code, place), 0, api.OK)
				} else {
					wantCode(t, function, fmt.Sprintf(code, place), behind, api.ErrJump)
				}
			}
			for _, place := range []int{20000, 1 << 31, 1<<32 + behind, 1 << 32, 1<<35 - 1} {
				wantCode(t, function, fmt.Sprintf(code, place), behind, api.ErrJump)
			}
		}
	}
}

func TestCheckTellsTheFirstPlaceThatIsNone(t *testing.T) {
	wantCode(t, 0, "jump 6 jump 0 jump 1 jump 3 end", 4, api.ErrJump)
	wantCode(t, 0, "nf jz 3 jump 0 nil keys 0 each 2 end", 8, api.ErrJump)
	wantCode(t, 0, "end jump 1 jz 3 each 2", 5, api.ErrJump)
	wantCode(t, 2, "end jump 7", 1, api.ErrJump)
	wantCode(t, 0, "jump 2", 0, api.ErrJump) // just behind the code
	wantCode(t, 0, "jump 1", 0, api.ErrJump) // into itself
	wantCode(t, 0, "jump 0", 0, api.OK)
}

func TestCheckOfFarPlaces(t *testing.T) {
	for _, much := range []int{100, 123, 124, 125, 126, 127, 128, 16378, 16379, 16380, 16381, 16382, 16383, 19000} {
		wantFlow(t, true, "jump far "+times(much, "drop")+"far: end")
		wantFlow(t, true, "back: jump far "+times(much, "end")+"far: nf jz back end")
		wantFlow(t, false, "back: jump far "+times(much, "end")+"far: nil nf jz back end")
	}
}
