package glean_test

import (
	"fmt"
	"strings"
	"testing"

	"glean/api"
	"glean/glean"
)

// Ways through the code.

func TestCheckOfNothingThatFollows(t *testing.T) {
	for _, r := range table {
		function := functionFor(r)
		want := api.ErrFlow
		if endsThere(r) || r.name == "jump" {
			want = api.OK
		}
		text := lay(plainKinds(r.takes), "k") + strings.ReplaceAll(call(r), "drop drop ", "")
		// A place must be there for the jumps: the first instruction, or one that nothing leads to.
		text = strings.ReplaceAll(strings.ReplaceAll(text, "behind: ", ""), "behind ", "first ")
		wantCode(t, function, "jump on first: "+finish(function)+" on: "+text, 0, want)
	}
	for function := range 7 {
		wantCode(t, function, "", 0, api.ErrFlow)
		wantCode(t, function, "nil", 0, api.ErrFlow)
		wantCode(t, function, "jump on on: nil", 0, api.ErrFlow)
		wantCode(t, function, "nf jz on "+finish(function)+"on: nil", 0, api.ErrFlow)
		wantCode(t, function, "nf jz on nil on: "+finish(function), 0, api.ErrFlow)
	}
}

func TestCheckOfWhatNothingLeadsTo(t *testing.T) {
	for _, text := range []string{
		"end drop", "end add cat neg len", "end nil", "end back: nil jump back", "end keys 0 tonum", "end each 0", "nf exit drop",
		"jump on drop drop back: nil jump back on: end", "on: jump on drop", "jump on back: drop jump back on: nf jz back2 end back2: end jump back",
		"end " + times(1100, "nil"), "end " + times(1100, "nil") + "jump 0", "end nil jump 0",
	} {
		wantFlow(t, true, text)
	}
	wantFlow(t, false, "nf jz on end on: drop end")
	wantFlow(t, false, "jump on back: drop end on: nf jz back end")
	// They are read all the same.
	wantCode(t, 0, "end str 3", 1, api.ErrOperand)
	wantCode(t, 0, "end drop ret", 2, api.ErrOp)
	wantCode(t, 0, "end drop jump 3", 2, api.ErrJump)
	wantCode(t, 3, "nil ret drop end", 3, api.ErrOp)
}

func TestCheckOfWaysOfJumps(t *testing.T) {
	for _, c := range []struct {
		right bool
		text  string
	}{
		{true, "loop: jump loop"}, {true, "loop: nf jz loop jump loop"}, {true, "nil loop: jump loop"},
		{true, "loop: nil drop jump loop"}, {false, "loop: nil jump loop"}, {false, "nil loop: drop jump loop"}, {false, "nil jump 0"},
		{true, "nf jz on on: end"}, {false, "nf jz on drop on: end"}, {false, "nf jz on nil on: end"}, {true, "nf jz on nil drop on: end"},
		{false, "nil nf jz on drop on: end"}, {true, "nil nf jz on drop nil on: end"}, {false, "jz on on: end"}, {false, "nil jz on on: end"}, {false, "str 0 jz on on: end"}, {false, "keys 0 jz on on: end"},
		{false, "nf jz on end on: drop end"}, {false, "nf jz on drop end on: end"}, {true, "nil nf jz on drop end on: drop end"},
		{true, "nf nf jz on neg drop end on: neg drop end"}, {false, "nf jz on neg end on: end"},
		{true, "nf exit"}, {false, "nil exit"}, {false, "exit"}, {false, "str 0 exit"}, {true, "keys 0 nf exit"}, {true, "keys 0 nil end"},
	} {
		wantFlow(t, c.right, c.text)
	}
	wantCode(t, 3, "nf ret", 0, api.OK)
	wantCode(t, 3, "str 0 ret", 0, api.OK)
	wantCode(t, 3, "keys 0 nil ret", 0, api.OK)
	wantCode(t, 3, "nil keys 0 ret", 0, api.ErrFlow)
	wantCode(t, 3, "ret", 0, api.ErrFlow)
	wantCode(t, 6, "nf jz on nil ret on: ret", 0, api.ErrFlow)
	wantCode(t, 6, "nf jz on nil ret on: nf exit", 0, api.OK)
}

func TestCheckOfEach(t *testing.T) {
	for _, c := range []struct {
		right bool
		text  string
	}{
		{true, "keys 0 loop: each out drop jump loop out: end"}, {true, "keys 0 loop: each out gstore 0 jump loop out: end"},
		{true, "keys 0 loop: each out print 1 jump loop out: end"}, {true, "keys 4 loop: each out len drop jump loop out: end"},
		{false, "keys 0 loop: each out neg drop jump loop out: end"}, {false, "keys 0 loop: each out jump loop out: end"}, {false, "keys 0 loop: each out drop drop jump loop out: end"},
		{false, "keys 0 loop: each out drop jump loop out: drop end"}, {true, "nil keys 0 loop: each out drop jump loop out: drop end"}, {false, "nil keys 0 loop: each out drop jump loop out: drop drop end"},
		{true, "keys 0 each out drop drop out: end"}, {false, "keys 0 each out drop out: end"}, {true, "keys 0 each out drop each out end out: end"}, {false, "keys 0 each out each out end out: end"},
		{true, "keys 0 each out end out: end"}, {true, "keys 0 each out drop drop end out: end"}, {false, "keys 0 each out drop drop drop end out: end"},
		{false, "loop: each loop end"}, {false, "nil each out end out: end"}, {false, "nf each out end out: end"}, {false, "str 0 each out end out: end"},
		{true, "loop: keys 0 each loop drop drop jump loop"}, {false, "loop: keys 0 each loop drop jump loop"},
		{true, "keys 0 keys 1 loop: each out drop jump loop out: each done drop jump out done: end"}, {false, "keys 0 keys 1 loop: each out drop jump loop out: each loop drop jump out"},
		{true, "keys 0 one: each out keys 1 two: each back drop jump two back: drop jump one out: end"},
		{true, "keys 0 one: each out keys 1 two: each back print 1 jump two back: print 1 jump one out: end"},
		{false, "keys 0 one: each out keys 1 two: each one print 1 jump two out: end"},
		{false, "keys 0 nf jz on drop keys 1 nil jump on on: each out end out: end"}, {true, "keys 0 nf jz on drop keys 1 on: each out end out: end"},
		{false, "nf jz else keys 0 jump on else: nil on: each out end out: end"}, {true, "nf jz else keys 0 jump on else: nil on: drop end"},
	} {
		wantFlow(t, c.right, c.text)
	}
}

// Kinds that meet.

// meeting is what two kinds are where they meet.
func meeting(a, b byte) byte {
	if a == b {
		return a
	}
	if mayBe(a, 'A') && mayBe(b, 'A') {
		return 'A'
	}
	return 'J'
}

// uses are instructions that take one kind and no higher one.
func uses() map[byte]string {
	return map[byte]string{'N': "neg drop", 'T': "len drop", 'A': "tonum drop", 'K': "each gone drop drop gone:", 'J': "drop", 'x': "dup drop drop", 'y': "nil under drop drop drop"}
}

func TestCheckOfKindsThatMeet(t *testing.T) {
	for _, a := range []byte("NTAKJ") {
		for _, b := range []byte("NTAKJ") {
			met := meeting(a, b)
			either := "nf jz else " + lay(string([]byte{a}), "p") + "jump on else: " + lay(string([]byte{b}), "q") + "on: "
			for taken, use := range uses() {
				wantFlow(t, mayBe(met, taken), either+use+" end")
				// Below other cells, and carried on over other ways.
				wantFlow(t, mayBe(met, taken), "keys 0 "+either+"str 0 nf jz far far: nil drop drop "+use+" each over end over: end")
			}
			for _, c := range []byte("NTAKJ") {
				three := strings.Replace(either, "on: ", "nf jz on drop "+lay(string([]byte{c}), "r")+"on: ", 1)
				for taken, use := range uses() {
					wantFlow(t, mayBe(meeting(met, c), taken), three+use+" end")
				}
			}
		}
	}
}

func TestCheckLeavesTheKindsThatDupAndUnderFound(t *testing.T) {
	for _, c := range []struct {
		right bool
		text  string
	}{
		{true, "nf dup add drop end"}, {true, "str 0 dup cat drop end"}, {false, "nil dup add drop end"}, {false, "nf dup cat drop end"}, {false, "str 0 dup add drop end"}, {true, "nil dup eq drop end"},
		{true, "nf str 0 under len drop neg drop len drop end"}, {false, "nf str 0 under neg drop end"}, {false, "nf str 0 under drop len drop end"}, {false, "nf str 0 under drop drop neg drop end"},
		{true, "nf nil under tonum drop neg drop tonum drop end"}, {false, "nf nil under drop drop neg drop end"}, {true, "nil nf under neg drop tonum drop neg drop end"},
		{false, "keys 0 dup end"}, {false, "keys 0 nil under end"}, {false, "nil keys 0 under end"}, {false, "dup end"}, {false, "nil under end"}, {false, "under end"},
		// Two that are swapped: under, and the top one dropped.
		{true, "nf str 0 under drop neg drop len drop end"}, {true, "nf str 0 under drop under drop len drop neg drop end"}, {false, "nf str 0 under drop under drop neg drop end"},
	} {
		wantFlow(t, c.right, c.text)
	}
}

func TestCheckFindsWhatMeetsBehindRounds(t *testing.T) {
	const swap = "under drop "
	for _, c := range []struct {
		right bool
		text  string
	}{
		// What the second turn lays down is found by the third.
		{true, "nf loop: neg jump loop"}, {false, "nf loop: neg drop nil jump loop"}, {false, "nf loop: neg drop str 0 jump loop"}, {true, "nf loop: tonum drop str 0 jump loop"}, {false, "nf loop: tonum drop keys 0 jump loop"}, {true, "nf loop: drop keys 0 jump loop"},
		{true, "nf nf loop: neg " + swap + "drop str 0 " + swap + "jump loop"}, {false, "nf nf loop: neg " + swap + "neg drop str 0 " + swap + "jump loop"},
		{true, "nf nf loop: " + swap + "jump loop"}, {true, "nf str 0 loop: " + swap + "jump loop"}, {false, "nf str 0 loop: len drop str 0 " + swap + "jump loop"}, {true, "nf str 0 loop: tonum " + swap + "jump loop"},
		// A text that comes in as the top cell; a turn later it is the first.
		{false, "nf nf nf loop: nf jz out " + swap + "drop " + swap + "str 0 jump loop out: drop drop neg drop end"},
		{false, "nf nf nf loop: nf jz out " + swap + "drop " + swap + "str 0 jump loop out: drop neg drop drop end"},
		{true, "nf nf nf loop: nf jz out " + swap + "drop " + swap + "str 0 jump loop out: drop tonum drop tonum drop end"},
		{true, "nf nf nf loop: nf jz out " + swap + "drop " + swap + "nf jump loop out: drop neg drop neg drop end"},
		// The first cell is used as Num outside; the change comes by the loop alone.
		{true, "nf nf nf loop: nf jz out jump loop out: drop drop neg drop end"},
		{true, "nf nf str 0 loop: nf jz out drop " + swap + "str 0 jump loop out: len drop neg drop neg drop end"},
		{false, "nf str 0 loop: nf jz out " + swap + "jump loop out: drop neg drop end"}, {false, "nf str 0 loop: nf jz out " + swap + "jump loop out: len drop drop end"}, {true, "nf str 0 loop: nf jz out " + swap + "jump loop out: tonum drop tonum drop end"},
		{false, "keys 0 loop: nf jz out drop nil jump loop out: tonum drop end"}, {true, "keys 0 loop: nf jz out drop nil jump loop out: drop end"},
		// Behind the loop lies code that was passed with the first kind already.
		{false, "nf jump in far: neg drop end in: loop: nf jz far drop nil jump loop"}, {true, "nf jump in far: tonum drop end in: loop: nf jz far drop nil jump loop"},
		{false, "nf jump in far: nf jz far2 neg drop end far2: drop end in: loop: nf jz far drop str 1 jump loop"},
		// Two loops in one another.
		{false, "nf nf outer: inner: nf jz out " + swap + "jump inner out: drop nil nf jz done jump outer done: drop neg drop end"},
		{true, "nf nf outer: inner: nf jz out " + swap + "jump inner out: drop nil nf jz done jump outer done: drop tonum drop end"},
	} {
		wantFlow(t, c.right, c.text)
	}
}

// carrier is a chain of n loops: what the last lays down comes, turn by turn,
// through all of them to the first, against the order of the code.
func carrier(n int, laid, use string) string {
	text := "nf jump head0 out: " + use + " end "
	for i := range n {
		next := fmt.Sprintf("head%d", i+1)
		if i == n-1 {
			next = "last"
		}
		back := "out"
		if i > 0 {
			back = fmt.Sprintf("head%d", i-1)
		}
		text += fmt.Sprintf("head%d: nf jz %s jump %s ", i, back, next)
	}
	return text + fmt.Sprintf("last: drop %s jump head%d", laid, n-1)
}

func TestCheckFindsWhatComesFromFar(t *testing.T) {
	for _, n := range []int{1, 2, 3, 10, 100, 1000} {
		wantFlow(t, true, carrier(n, "nf", "neg drop"))
		wantFlow(t, false, carrier(n, "nil", "neg drop"))
		wantFlow(t, true, carrier(n, "nil", "tonum drop"))
		wantFlow(t, false, carrier(n, "keys 0", "tonum drop"))
		wantFlow(t, true, carrier(n, "keys 0", "drop"))
		wantFlow(t, false, carrier(n, "keys 0", "dup drop drop"))
	}
}

// deep lets a stack of a height meet one that has another kind in the cell
// below so many others, and uses just this cell behind it.
func deep(height, above int, other, use string) string {
	below := height - 1 - above
	return times(below, "nf") + "nf jz else " + other + " " + times(above, "nf") + "jump on else: " + times(above+1, "nf") + "on: " + times(above, "neg drop") + use + " " + times(below, "neg drop") + "end"
}

func TestCheckLooksAtEveryCell(t *testing.T) {
	for _, height := range []int{1, 2, 15, 16, 17, 31, 32, 33, 63, 64, 65, 500, 1023} {
		for _, above := range []int{0, 1, 2, 14, 15, 16, 17, 31, 32, 62, 63, 64, 65, 300, 499, 1021, 1022} {
			if above >= height {
				continue
			}
			wantFlow(t, false, deep(height, above, "nil", "neg drop"))
			wantFlow(t, false, deep(height, above, "str 0", "neg drop"))
			wantFlow(t, true, deep(height, above, "nil", "tonum drop"))
			wantFlow(t, false, deep(height, above, "keys 0", "tonum drop"))
			wantFlow(t, true, deep(height, above, "keys 0", "drop"))
			wantFlow(t, true, deep(height, above, "nf", "neg drop"))
		}
	}
}

// Heights.

func TestCheckKeepsMaxHeight(t *testing.T) {
	for _, r := range table {
		function := functionFor(r)
		takes := plainKinds(r.takes)
		found := lay(takes, "k")
		for height := api.MaxHeight - 3; height <= api.MaxHeight+1; height++ {
			left := height - len(takes) + len(leaves(r, takes))
			if r.name == "each" {
				left = height + 1
			}
			want := api.OK
			if height > api.MaxHeight || left > api.MaxHeight {
				want = api.ErrFlow
			}
			behind := "drop " + finish(function)
			if endsThere(r) {
				behind = ""
			}
			wantCode(t, function, times(height-len(takes), "nil")+found+call(r)+behind, 0, want)
		}
	}
	wantFlow(t, true, times(1024, "nil")+times(1024, "drop")+"end")
	wantFlow(t, false, times(1024, "nil")+times(1025, "drop")+"end")
	wantFlow(t, false, times(1025, "nil")+times(1025, "drop")+"end")
	wantFlow(t, true, times(1024, "str 0")+"print 1000 "+times(24, "drop")+"end")
	wantFlow(t, true, times(1024, "nil")+"loop: jump loop")
	wantFlow(t, true, times(1023, "nil")+"loop: dup drop jump loop")
	wantFlow(t, false, "loop: dup jump loop")
	wantFlow(t, true, times(1022, "nil")+"call 3 nil call 4 drop end")
	wantFlow(t, true, times(1023, "nil")+"call 3 call 4 drop end")
	wantFlow(t, false, times(1024, "nil")+"call 3 drop end")
	wantFlow(t, true, times(1024, "nil")+"call 4 call 5 call 3 drop end")
}

// Several faults.

func TestCheckTellsTheFirstFunction(t *testing.T) {
	faults := map[string]struct {
		place int
		errno api.Errno
	}{
		"nil drop str 9":           {2, api.ErrOperand},
		"nil drop jump 1 jump 3":   {4, api.ErrJump},
		"nil drop drop nil jump 0": {0, api.ErrFlow},
		"":                         {0, api.ErrFlow},
	}
	for one, first := range faults {
		for other := range faults {
			for i := range 7 {
				for j := i + 1; j < 7; j++ {
					m := codeModule(i, asm(one))
					m.Funcs[j].Code = asm(other)
					wantCheck(t, fmt.Sprintf("%s in %d, %s in %d", one, i, other, j), m, i, first.place, first.errno)
					m.Funcs[j].Code = "\xff"
					wantCheck(t, fmt.Sprintf("%s in %d, no instruction in %d", one, i, j), m, i, first.place, first.errno)
					m = codeModule(j, asm(other))
					m.Funcs[i].Code = asm("nil drop") + "\xff"
					wantCheck(t, fmt.Sprintf("no instruction in %d, %s in %d", i, other, j), m, i, 2, api.ErrOp)
				}
			}
		}
	}
}

func TestCheckTellsTheFirstOfAFunction(t *testing.T) {
	// Of reading, whichever comes first in the code.
	wantCode(t, 0, "nil str 9 ret", 1, api.ErrOperand)
	wantCode(t, 0, "nil ret str 9", 1, api.ErrOp)
	wantCode(t, 0, "nil print 0 print 1001 ret", 1, api.ErrOperand)
	wantCode(t, 3, "nil end ret end", 1, api.ErrOp)
	// Reading ahead of places, places ahead of stacks, wherever they are.
	wantCode(t, 0, "jump 1 drop str 9", 3, api.ErrOperand)
	wantCode(t, 0, "jump 1 drop ret", 3, api.ErrOp)
	wantCode(t, 0, "drop drop ret", 2, api.ErrOp)
	wantCode(t, 0, "drop str 9 end", 1, api.ErrOperand)
	wantCode(t, 0, "drop jump 2 end", 1, api.ErrJump)
	wantCode(t, 0, "nil drop drop end jump 5", 4, api.ErrJump)
	wantCode(t, 0, "drop jz 3", 1, api.ErrJump)
	wantCode(t, 0, "nil each 2", 1, api.ErrJump)
	// A place that is no number in bytes is an operand's fault, at once.
	wantCheck(t, "an open place", codeModule(0, "\x30\x01\x30\x80"), 0, 2, api.ErrOperand)
	wantCheck(t, "a place with a needless 0", codeModule(0, "\x30\x01\x30\x80\x00\x34"), 0, 2, api.ErrOperand)
	wantCheck(t, "a wrong number, then none", codeModule(0, "\x26\x05\x80"), 0, 0, api.ErrOperand)
	wantCheck(t, "two wrong operands", codeModule(0, "\x26\x05\x02\x34"), 0, 0, api.ErrOperand)
	wantCheck(t, "an operand, then no instruction", codeModule(0, "\x01\x03\xff"), 0, 0, api.ErrOperand)
	wantCheck(t, "what would be an operand", codeModule(0, "\x02\x80\x34"), 0, 1, api.ErrOp)
}

func TestCheckOfTheLastFunction(t *testing.T) {
	m := codeModule(0, asm("end"))
	for len(m.Funcs) < api.MaxTable {
		m.Funcs = append(m.Funcs, api.Func{Params: 1, Locals: 1, Code: asm("nil ret")})
	}
	wantCheck(t, "all are right", m, 0, 0, api.OK)
	m.Funcs[0].Code = asm("nil call 999 drop end")
	wantCheck(t, "the last is called", m, 0, 0, api.OK)
	m.Funcs[0].Code = asm("nil call 1000 drop end")
	wantCheck(t, "one more is called", m, 0, 1, api.ErrOperand)
	m.Funcs[0].Code = asm("end")
	m.Funcs[999].Code = asm("nil nil drop ret end")
	wantCheck(t, "the last is wrong", m, 999, 4, api.ErrOp)
	m.Funcs[999].Code = asm("nil load 1 ret")
	wantCheck(t, "the last is wrong", m, 999, 1, api.ErrOperand)
	m.Funcs[999].Code = asm("ret")
	wantCheck(t, "the last is wrong", m, 999, 0, api.ErrFlow)
}

func TestCheckOfTheExamples(t *testing.T) {
	for _, c := range []struct {
		code  string
		place int
		errno api.Errno
	}{
		{"\x34", 0, api.OK}, {"\x00\x0a\x34", 0, api.OK}, {"\x2f\x34", 0, api.ErrFlow}, {"\x00\x0a", 0, api.ErrFlow},
		{"\x30\x01\x34", 0, api.ErrJump}, {"\x00\x80", 0, api.ErrOperand}, {"\x34\x63", 1, api.ErrOp}, {"\x33", 0, api.ErrOp},
	} {
		m := plainModule()
		m.Funcs[0].Code = c.code
		wantCheck(t, fmt.Sprintf("%q", c.code), m, 0, c.place, c.errno)
	}
}

func TestCheckTellsTheFaultOfUnpack(t *testing.T) {
	whole := packed(t, codeModule(0, asm("drop")))
	texts := []string{"", "G", whole[1:], whole + "\x00", whole[:len(whole)-1], strings.Repeat("G", api.MaxModule+1), bytesWith("\x00", "\x01\x01*", "\x00", "\x00", "\x03\x00\x00\x01\xff\x00\x00\x00\x00\x00\x00")}
	for cut := range whole {
		texts = append(texts, whole[:cut], whole[:cut]+"\xff"+whole[cut+1:], whole[:cut]+whole[cut+1:])
	}
	for _, b := range texts {
		_, wantAt, wantE := glean.Unpack(b)
		if wantE == api.OK {
			t.Fatalf("Unpack(%.60q): OK", b)
		}
		if f, at, e := glean.Check(b); f != 0 || at != wantAt || e != wantE {
			t.Errorf("Check(%.60q) = %d, %d, %d, want 0, %d, %d", b, f, at, e, wantAt, wantE)
		}
	}
	wantCheck(t, "whole", codeModule(0, asm("drop")), 0, 0, api.ErrFlow)
}
