package glean_test

// What the tests of the machine play with: modules that are put together with
// their code, values written out, and runs that are held against their states.

import (
	"fmt"
	"slices"
	"strings"
	"testing"

	"glean/api"
	"glean/glean"
)

// deck is a module that grows with what its code needs. Array 0 and global 0
// are there for literals and probes, the others for the tests.
type deck struct {
	api.Module
}

func newDeck() *deck {
	m := codeModule(0, asm("end"))
	m.Texts, m.Patterns = nil, nil
	return &deck{m}
}

// place is where something stands in a list; it comes in if it does not.
func place(list *[]string, text string) int {
	at := slices.Index(*list, text)
	if at < 0 {
		at = len(*list)
		*list = append(*list, text)
	}
	return at
}

func (d *deck) pattern(text string) int { return place(&d.Patterns, text) }

// lit is code that leaves a value (see numeral). A numeral must be read: it is
// a piece that split leaves in array 0.
func (d *deck) lit(v any) string {
	switch v := v.(type) {
	case int:
		if v < 0 {
			return fmt.Sprintf("num %d ", -2*v-1)
		}
		return fmt.Sprintf("num %d ", 2*v)
	case string:
		return fmt.Sprintf("str %d ", place(&d.Texts, v))
	case numeral:
		return d.lit(string(v)) + fmt.Sprintf("split 0 %d drop %s aget 0 ", d.pattern("^"), d.lit("1"))
	}
	return "nil "
}

func (d *deck) lits(list ...any) string {
	out := ""
	for _, v := range list {
		out += d.lit(v)
	}
	return out
}

// show prints the text of what lies on the top.
const show = "totext print 1 "

// set is code that gives a key of an array a value.
func (d *deck) set(array int, key string, v any) string {
	return d.lits(key, v) + fmt.Sprintf("aset %d ", array)
}

// code is the code of a function.
func (d *deck) code(function int, text string) *deck {
	d.Funcs[function].Code = asm(text)
	return d
}

// open makes a machine that plays the module.
func (d *deck) open(t *testing.T, records []string, draws []int) *glean.Machine {
	t.Helper()
	x, e := glean.Open(packed(t, d.Module), records, draws)
	if e != api.OK || x == nil {
		t.Fatalf("Open: %d", e)
	}
	return x
}

// run plays the module, and tells how the run stands behind MaxFuel
// instructions.
func (d *deck) run(t *testing.T, records []string, draws []int) api.State {
	t.Helper()
	x := d.open(t, records, draws)
	if e := x.Go(api.MaxFuel); e != api.OK {
		t.Fatalf("Go: %d", e)
	}
	return x.Tell()
}

// count is how many instructions there are in a text of code.
func count(text string) int {
	n := 0
	for _, word := range strings.Fields(text) {
		if _, ok := byName[word]; ok {
			n++
		}
	}
	return n
}

// wantOutput plays code as that of function 0, to the end of the run.
func (d *deck) wantOutput(t *testing.T, text string, lines ...string) {
	t.Helper()
	want := ""
	for _, line := range lines {
		want += line + "\n"
	}
	if s := d.code(0, text+" end").run(t, nil, nil); s.Output != want || s.Status != api.StEnded || s.Code != 0 {
		t.Errorf("%s: %+v, want %q", text, s, want)
	}
}

// wantEnd plays code without jumps, as that of function 0, of which the last
// instruction ends the run.
func (d *deck) wantEnd(t *testing.T, text string, status int) {
	t.Helper()
	ahead := d.lit("ahead") + "print 1 " + d.set(1, "k", "v")
	d.code(0, ahead+text+" end")
	x := d.open(t, nil, nil)
	want := api.State{Status: status, Output: "ahead\n", Used: count(ahead + text)}
	x.Go(want.Used - 1)
	if s := x.Tell(); s.Status != api.StGoing || s.Used != want.Used-1 || s.Output != want.Output {
		t.Errorf("ahead of the last of %s: %+v", text, s)
	}
	before, _ := x.Keys(2)
	for range 3 {
		x.Go(1)
		if s := x.Tell(); s != want {
			t.Errorf("%s: %+v, want %+v", text, s, want)
		}
		x.Go(api.MaxFuel)
	}
	if keys, _ := x.Keys(1); !slices.Equal(keys, []string{"k"}) {
		t.Errorf("%s: the keys of array 1 are %q", text, keys)
	}
	if keys, _ := x.Keys(2); !slices.Equal(keys, before) {
		t.Errorf("%s: the keys of array 2 are %q, before %q", text, keys, before)
	}
}

// yardsticks are values that each value is held against to tell its kind.
func yardsticks() []any {
	return []any{nil, 0, 1, 5, 10, -1, 1000000000, -1000000000, "", "0", "1", "5", "10", "a", numeral("+5"), numeral("010"), numeral("-0")}
}

// probe prints all that can be told of the value on the top.
func (d *deck) probe() string {
	out := "gstore 0 gload 0 " + show + "gload 0 tonum " + show + "gload 0 test " + show
	for _, other := range yardsticks() {
		out += "gload 0 " + d.lit(other) + "lt " + show + "gload 0 " + d.lit(other) + "gt " + show
	}
	return out
}

// probed is what the probe prints of a value.
func probed(v any) string {
	out := fmt.Sprintf("%s\n%d\n%d\n", textOf(v), numberOf(v), oneIf(valueHolds(v)))
	for _, other := range yardsticks() {
		order := compareValues(v, other)
		out += fmt.Sprintf("%d\n%d\n", oneIf(order < 0), oneIf(order > 0))
	}
	return out
}

// wantLeft plays code that leaves one value above what lay there.
func (d *deck) wantLeft(t *testing.T, text string, want any) {
	t.Helper()
	d.code(0, d.lit("below")+text+" "+d.probe()+"print 1 end")
	if s := d.run(t, nil, nil); s.Status != api.StEnded || s.Output != probed(want)+"below\n" {
		t.Errorf("%s does not leave %T %q: %+v", text, want, want, s)
	}
}

// apply is code with values and an instruction that finds them.
func (d *deck) apply(instruction string, found ...any) string {
	return d.lits(found...) + instruction + " "
}

// xs is a text of so many bytes.
func xs(n int) string { return strings.Repeat("x", n) }
