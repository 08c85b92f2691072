package glean_test

import (
	"fmt"
	"strings"
	"testing"

	"glean/api"
)

// say is code that prints a text.
func (d *deck) say(text string) string { return d.lit(text) + "print 1 " }

// lines is an output of these.
func lines(list ...string) string { return strings.Join(list, "\n") + "\n" }

// How a module is played.

func TestTheFunctionsInTheirOrder(t *testing.T) {
	d := newDeck()
	whole := d.lit(0) + "field "
	d.code(0, d.say("first")+"end").code(1, "nr "+show+whole+show+"end").code(2, d.say("last")+"nr "+show+whole+show+"end")
	for _, c := range []struct {
		records []string
		out     string
		used    int
	}{
		{nil, lines("first", "last", "0", ""), 13},
		{[]string{"a b"}, lines("first", "1", "a b", "last", "1", "a b"), 21},
		{[]string{"x", "", "y"}, lines("first", "1", "x", "2", "", "3", "y", "last", "3", "y"), 37},
	} {
		want := api.State{Status: api.StEnded, Output: c.out, Used: c.used}
		if s := d.run(t, c.records, nil); s != want {
			t.Errorf("%q: %+v, want %+v", c.records, s, want)
		}
	}
	d = newDeck()
	d.code(1, "nr totext nil aset 1 nf totext nil aset 2 end")
	records := make([]string, api.MaxRecords)
	if s := d.run(t, records, nil); s.Status != api.StFull || s.Used != 1+30*9+4 { // the 31st key
		t.Errorf("fifty records: %+v", s)
	}
	d.code(1, "end").code(2, "nr "+show+"end")
	if s := d.run(t, records, nil); s.Output != "50\n" || s.Used != 55 {
		t.Errorf("fifty records: %+v", s)
	}
}

func TestWhatIsThereAtFirst(t *testing.T) {
	d := newDeck()
	for i := range 4 {
		d.wantLeft(t, fmt.Sprintf("gload %d", i), nil)
	}
	for i := range 6 {
		d.wantLeft(t, fmt.Sprintf("load %d", i), nil)
	}
	d.wantLeft(t, "nf", 0)
	d.wantLeft(t, "nr", 0)
	x := d.code(0, "end").open(t, []string{"a"}, []int{1})
	if s := x.Tell(); s != (api.State{}) {
		t.Errorf("ahead of all: %+v", s)
	}
	for a := range 5 {
		wantKeys(t, x, a)
	}
}

func TestEveryVariableIsItsOwn(t *testing.T) {
	d := newDeck()
	d.Globals, d.Arrays = 1000, 1000
	d.Funcs[0].Locals = 16
	text, want := "", []string{}
	for _, i := range []int{0, 1, 7, 8, 15} {
		text += d.lit(fmt.Sprintf("l%d", i)) + fmt.Sprintf("store %d ", i)
	}
	for _, i := range []int{0, 1, 127, 128, 500, 999} {
		text += d.lit(fmt.Sprintf("g%d", i)) + fmt.Sprintf("gstore %d ", i) + d.set(i, "k", fmt.Sprintf("a%d", i))
	}
	for _, i := range []int{0, 1, 7, 8, 15} {
		text += fmt.Sprintf("load %d ", i) + show
		want = append(want, fmt.Sprintf("l%d", i))
	}
	for _, i := range []int{0, 1, 127, 128, 500, 999} {
		text += fmt.Sprintf("gload %d ", i) + show + d.lit("k") + fmt.Sprintf("aget %d ", i) + show
		want = append(want, fmt.Sprintf("g%d", i), fmt.Sprintf("a%d", i))
	}
	d.wantOutput(t, text+"load 2 "+show+"gload 2 "+show, append(want, "", "")...)
}

func TestGlobalsStayAndLocalsDoNot(t *testing.T) {
	d := newDeck()
	count := func(name string) string {
		return name + "load 0 tonum num 2 add dup " + name + "store 0 " + show
	}
	both := count("g") + count("") + "end"
	d.code(0, both).code(1, both).code(2, both)
	want := api.State{Status: api.StEnded, Output: lines("1", "1", "2", "1", "3", "1", "4", "1"), Used: 4 * 17}
	if s := d.run(t, []string{"a", "b"}, nil); s != want {
		t.Errorf("%+v, want %+v", s, want)
	}
}

func TestEndLeavesTheStackBehind(t *testing.T) {
	d := newDeck()
	d.code(0, d.lits("a", 5)+"keys 1 end").code(1, d.lit("b")+"end").code(2, d.lit("c")+"print 1 end")
	if s := d.run(t, []string{"x", "y"}, nil); s.Status != api.StEnded || s.Output != "c\n" || s.Used != 4+2*2+3 {
		t.Errorf("%+v", s)
	}
}

// Jumps.

func TestJumps(t *testing.T) {
	d := newDeck()
	d.wantOutput(t, "jump on "+d.say("not this")+"on: "+d.say("this"), "this")
	for _, x := range []int{0, 1, -1, most, -most} {
		want := []string{"other"}
		if x != 0 {
			want = []string{"next", "other"}
		}
		d.wantOutput(t, d.lit(x)+"jz on "+d.say("next")+"on: "+d.say("other"), want...)
	}
	d.wantOutput(t, d.lit(3)+"again: dup "+show+d.lit(1)+"sub dup jz out jump again out: drop", "3", "2", "1")
	d.code(0, "again: jump again end")
	if s := d.run(t, nil, nil); s != (api.State{Used: api.MaxFuel}) {
		t.Errorf("without an end: %+v", s)
	}
	x := d.open(t, nil, nil)
	for range 7 {
		x.Go(api.MaxFuel)
	}
	if s := x.Tell(); s != (api.State{Used: 7 * api.MaxFuel}) {
		t.Errorf("without an end: %+v", s)
	}
}

func TestHighStacks(t *testing.T) {
	d := newDeck()
	d.wantOutput(t, d.lit("z")+times(1023, d.lit("a"))+times(1021, "drop")+"print 3", "z a a")
	d.wantOutput(t, times(1024, d.lit(3))+times(1023, "add")+show, "3072")
	d.wantOutput(t, times(1000, d.lit(""))+"print 1000", strings.Repeat(" ", 999))
	d.code(3, times(1024, "nil")+"ret")
	d.wantOutput(t, times(1023, "nil")+"call 3 "+show, "")
}

// Calls.

func TestCallsTakeTheirArguments(t *testing.T) {
	d := newDeck()
	all := ""
	for i := range 16 {
		all += fmt.Sprintf("load %d totext ", i)
	}
	d.code(6, all+"print 16 load 7 ret").code(5, "load 1 load 0 totext "+"drop ret").code(4, "load 0 load 1 totext load 2 totext print 2 ret")
	d.wantOutput(t, d.lits("below", 1, "b", numeral(" 3"), nil, 5, "f", "g", "h")+"call 6 totext print 2", "1 b  3  5 f g h        ", "below h")
	d.wantOutput(t, d.lits("x", "a", "b")+"call 5 totext print 2", "x b")
	d.wantOutput(t, d.lits("x", "a")+"call 4 totext print 2", " ", "x a")
	d.code(3, d.lit("three")+"load 0 drop ret")
	d.wantOutput(t, d.lit("x")+"call 3 totext print 2", "x three")
}

func TestCallsHaveLocalsAndStacksOfTheirOwn(t *testing.T) {
	d := newDeck()
	// Function 4 counts its argument down; its local 1 is a text of its own, on
	// its stack lies more than it took.
	d.Funcs[4].Locals = 2
	d.code(4, "load 1 "+show+d.lit("mine")+"store 1 load 0 tonum jz out "+d.lits("a", "b")+"load 0 tonum "+d.lit(1)+"sub call 4 drop print 2 load 0 "+show+"load 1 ret out: "+d.lit("deep")+"ret")
	d.wantOutput(t, d.lit("own")+"store 1 "+d.lit(2)+"call 4 "+show+"load 1 "+show, "", "", "", "a b", "1", "a b", "2", "mine", "own")
}

func TestCallsOfOtherFunctions(t *testing.T) {
	d := newDeck()
	d.code(3, d.say("3")+d.lit("x")+"call 4 ret").code(4, d.say("4")+d.lits("y", "z")+"call 5 "+show+"load 0 ret").code(5, d.say("5")+"load 1 ret")
	d.code(1, "call 3 "+show+"end").code(2, "call 3 "+show+"end")
	d.code(0, "call 3 "+show+"end")
	once := []string{"3", "4", "5", "z", "x"}
	if s := d.run(t, []string{"r"}, nil); s.Output != lines(once...)+lines(once...)+lines(once...) || s.Status != api.StEnded {
		t.Errorf("%+v", s)
	}
}

// depth is a module in which function 4 calls itself as often as its argument
// says, and then tells 7.
func depthDeck() *deck {
	d := newDeck()
	d.code(4, "load 0 tonum dup jz out "+d.lit(1)+"sub call 4 ret out: drop "+d.lit(7)+"ret")
	return d
}

func TestCallsWithinCalls(t *testing.T) {
	for calls := 1; calls <= 25; calls++ {
		d := depthDeck()
		s := d.code(0, d.say("ahead")+d.lit(calls-1)+"call 4 "+show+"end").run(t, nil, nil)
		want := api.State{Status: api.StEnded, Output: lines("ahead", "7"), Used: 4 + 8*(calls-1) + 7 + 4}
		if calls > 20 {
			want = api.State{Status: api.StDepth, Output: lines("ahead"), Used: 4 + 7*20}
		}
		if s != want {
			t.Errorf("%d calls: %+v, want %+v", calls, s, want)
		}
	}
}

func TestCallsThatAreOverDoNotCount(t *testing.T) {
	d := depthDeck()
	call := d.lit(19) + "call 4 drop "
	for f := range 3 {
		d.code(f, times(5, call)+"end")
	}
	if s := d.run(t, []string{"a", "b"}, nil); s.Status != api.StEnded {
		t.Errorf("twenty calls at a time: %+v", s)
	}
	// A run that goes from function to function within calls would be too deep.
	d.code(0, d.lit(20)+"call 4 drop end")
	if s := d.run(t, nil, nil); s.Status != api.StDepth {
		t.Errorf("one more: %+v", s)
	}
}

func TestFaultsWithinCalls(t *testing.T) {
	for status, text := range map[int]string{
		api.StZero: "num 0 num 0 div ret", api.StRange: "num 2000000000 dup mul ret", api.StField: "num 1 field ret",
	} {
		d := newDeck()
		s := d.code(3, text).code(0, d.say("ahead")+"call 3 drop end").run(t, []string{"a"}, []int{1})
		if want := (api.State{Status: status, Output: "ahead\n", Used: 3 + count(text) - 1}); s != want {
			t.Errorf("%s: %+v, want %+v", text, s, want)
		}
	}
}

// Records and draws.

func TestGetline(t *testing.T) {
	d := newDeck()
	whole := d.lit(0) + "field " + show
	get := "getline " + show
	for _, c := range []struct {
		name    string
		codes   [3]string
		records []string
		out     []string
	}{
		{"in function 0", [3]string{get + whole + "nr " + show, d.say("for") + whole + "nr " + show, "nr " + show}, []string{"a", "b"}, []string{"1", "a", "1", "for", "b", "2", "2"}},
		{"all of them in function 0", [3]string{"again: getline jz out nf " + show + "jump again out: ", d.say("for"), whole + "nr " + show + get}, []string{"a", "b c", ""}, []string{"1", "2", "0", "", "3", "0"}},
		{"none is left", [3]string{get + whole + "nr " + show + get, d.say("for"), get}, nil, []string{"0", "", "0", "0", "0"}},
		{"the record stays if none is left", [3]string{"", get + whole + "nf " + show + "nr " + show, get + whole}, []string{"a b"}, []string{"0", "a b", "2", "1", "0", "a b"}},
		{"in function 1", [3]string{"", d.say("for") + whole + get + whole + "nr " + show, "nr " + show}, []string{"a", "b", "c"}, []string{"for", "a", "1", "b", "2", "for", "c", "0", "c", "3", "3"}},
		{"in function 2", [3]string{"", "", get + get + whole + "nr " + show}, []string{"a", "b"}, []string{"0", "0", "b", "2"}},
		{"a record that was changed", [3]string{d.apply("setfield", 3, "x") + get + "nf " + show + whole, "", ""}, []string{"a"}, []string{"1", "1", "a"}},
	} {
		for f, code := range c.codes {
			d.code(f, code+"end")
		}
		if s := d.run(t, c.records, nil); s.Output != lines(c.out...) || s.Status != api.StEnded {
			t.Errorf("%s: %+v, want %q", c.name, s, c.out)
		}
	}
	d = newDeck()
	d.code(3, "getline ret").code(0, "call 3 "+show+"call 3 "+show+whole+"end").code(1, d.say("for")+"end")
	if s := d.run(t, []string{"a"}, nil); s.Output != lines("1", "0", "a") {
		t.Errorf("in a function that is called: %+v", s)
	}
}

func TestDraw(t *testing.T) {
	d := newDeck()
	draw := "draw " + show
	d.code(0, draw+draw+"end").code(1, draw+"end").code(2, draw+draw+"end")
	for _, c := range []struct {
		draws []int
		out   []string
	}{
		{nil, []string{"0", "0", "0", "0", "0"}}, {[]int{9}, []string{"9", "0", "0", "0", "0"}}, {[]int{5, -5, most, -most}, []string{"5", "-5", "1000000000", "-1000000000", "0"}}, {[]int{1, 2, 3, 4, 5, 6, 7}, []string{"1", "2", "3", "4", "5"}}, {[]int{0, 0, 3}, []string{"0", "0", "3", "0", "0"}},
	} {
		if s := d.run(t, []string{"a"}, c.draws); s.Output != lines(c.out...) || s.Status != api.StEnded {
			t.Errorf("%v: %+v, want %q", c.draws, s, c.out)
		}
	}
	all := make([]int, api.MaxDraws)
	for i := range all {
		all[i] = i + 1
	}
	d.code(0, times(49, "draw drop")+draw+draw+"end").code(2, "end")
	if s := d.run(t, nil, all); s.Output != lines("50", "0") {
		t.Errorf("fifty draws: %+v", s)
	}
	d.wantOutput(t, "draw "+d.probe(), strings.TrimSuffix(probed(0), "\n")) // a number
}

// The examples of modules that are played.

func TestTheExampleOfKindsThatMeet(t *testing.T) {
	m := plainModule()
	m.Texts = []string{"text"}
	for operand, want := range map[string]string{"\x02": "text\n", "\x00": "2\n"} {
		m.Funcs[0].Code = "\x00" + operand + "\x31\x08\x01\x00\x30\x0a\x00\x04\x1b\x2c\x01\x34"
		d := &deck{m}
		if s := d.run(t, nil, nil); s.Output != want || s.Status != api.StEnded || s.Used != 8-oneIf(operand == "\x00") {
			t.Errorf("%q: %+v, want %q", operand, s, want)
		}
	}
	d := newDeck()
	d.code(0, "end")
	if s := d.run(t, nil, nil); s != (api.State{Status: api.StEnded, Used: 2}) {
		t.Errorf("nothing but ends: %+v", s)
	}
}
