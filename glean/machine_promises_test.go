package glean_test

import (
	"fmt"
	"math"
	"math/rand/v2"
	"slices"
	"strings"
	"sync"
	"testing"
	"time"

	"glean/api"
	"glean/glean"
)

// P10

func TestOpenTellsTheErrorOfCheck(t *testing.T) {
	tooMany := make([]string, 51)
	ask := func(b string) {
		t.Helper()
		_, _, want := glean.Check(b)
		for _, records := range [][]string{nil, tooMany, {as(101)}} {
			if x, e := glean.Open(b, records, []int{most + 1}); x != nil || e != want || e == api.OK {
				t.Errorf("Open of %.60q = %v, %d, want %d", b, x, e, want)
			}
		}
	}
	good := packed(t, codeModule(0, asm("end")))
	for _, b := range []string{"", "G", "GL", good[1:], good[:len(good)-1], good + "\x00", good[:20], strings.Repeat("a", 40001), strings.Repeat("\x00", 3000000), seal("GL\x02"), bytesWith("\x00", "\x01\x01(", "\x00", "\x00", plainFuncs), bytesWith("\x00", "\x00", "\x00", "\xe9\x07", plainFuncs)} {
		ask(b)
	}
	for function := range 7 {
		for _, text := range []string{"", "drop", "nil", "jump 1", "str 9", "load 16", "nf len", "call 2"} {
			ask(packed(t, codeModule(function, asm(text))))
		}
	}
	ask(packed(t, codeModule(0, asm("nil ret"))))
	ask(packed(t, codeModule(3, asm("end"))))
	ask(packed(t, codeModule(2, "\x36")))
}

func TestOpenTellsWrongScripts(t *testing.T) {
	b := packed(t, codeModule(0, asm("end")))
	for _, c := range []struct {
		name    string
		records []string
		draws   []int
		e       api.Errno
	}{
		{"nothing", nil, nil, api.OK},
		{"empty lists", []string{}, []int{}, api.OK},
		{"all that may be", slices.Repeat([]string{as(100)}, 50), slices.Repeat([]int{most, -most}, 25), api.OK},
		{"a record too many", make([]string, 51), nil, api.ErrScript},
		{"many records too many", make([]string, 100000), nil, api.ErrScript},
		{"a draw too many", nil, make([]int, 51), api.ErrScript},
		{"many draws too many", nil, make([]int, 100000), api.ErrScript},
		{"a record too long", []string{as(101)}, nil, api.ErrScript},
		{"the last record too long", append(slices.Repeat([]string{as(100)}, 49), as(101)), nil, api.ErrScript},
		{"a record much too long", []string{"", as(3000000)}, nil, api.ErrScript},
		{"a draw too great", nil, []int{most + 1}, api.ErrScript},
		{"a draw too small", nil, []int{-most - 1}, api.ErrScript},
		{"the last draw too great", nil, append(make([]int, 49), most+1), api.ErrScript},
		{"draws at the ends of int", nil, []int{math.MaxInt}, api.ErrScript},
		{"draws at the ends of int", nil, []int{math.MinInt}, api.ErrScript},
		{"both", []string{as(101)}, []int{most + 1}, api.ErrScript},
	} {
		if x, e := glean.Open(b, c.records, c.draws); e != c.e || (x != nil) != (c.e == api.OK) {
			t.Errorf("%s: %v, %d, want %d", c.name, x, e, c.e)
		}
	}
}

// P11

// busy is a deck with a run of some length, that reads, draws, prints, calls.
func busy() (*deck, []string, []int) {
	d := newDeck()
	d.code(4, "load 0 tonum dup jz out "+d.lit(1)+"sub call 4 ret out: drop nr ret")
	d.code(0, d.say("first")+"draw call 4 "+show+"end")
	d.code(1, d.lit(1)+"field totext dup dup aget 1 tonum "+d.lit(1)+"add aset 1 print 1 end")
	d.code(2, d.going("dup aget 1 "+show, nil)+d.lits(7, 0)+"div drop end")
	return d, []string{"a b", "b", "", "a"}, []int{3}
}

// wantPieces plays the same run at once and in pieces.
func wantPieces(t *testing.T, d *deck, records []string, draws []int, pieces func() int) {
	t.Helper()
	whole := d.open(t, records, draws)
	whole.Go(api.MaxFuel)
	x := d.open(t, records, draws)
	sum := 0
	for x.Tell().Status == api.StGoing {
		n := pieces()
		if e := x.Go(n); e != api.OK {
			t.Fatalf("Go(%d) = %d", n, e)
		}
		sum += n
		if s := x.Tell(); s.Used != min(sum, whole.Tell().Used) {
			t.Fatalf("behind %d: %+v", sum, s)
		}
	}
	if x.Tell() != whole.Tell() {
		t.Errorf("in pieces %+v, at once %+v", x.Tell(), whole.Tell())
	}
	for a := range d.Arrays {
		keys, _ := whole.Keys(a)
		wantKeys(t, x, a, keys...)
	}
}

func TestGoInPieces(t *testing.T) {
	d, records, draws := busy()
	want := api.State{Status: api.StZero, Output: lines("first", "0", "a", "b", "", "a", "a", "2", "b", "1", "", "1"), Used: 118}
	if s := d.run(t, records, draws); s != want {
		t.Errorf("%+v, want %+v", s, want)
	}
	r := rand.New(rand.NewPCG(11, 12))
	for size := 1; size < 140; size++ {
		wantPieces(t, d, records, draws, func() int { return size })
		wantPieces(t, d, records, draws, func() int { return r.IntN(size + 1) })
	}
}

func TestGoRefuses(t *testing.T) {
	d, records, draws := busy()
	x := d.open(t, records, draws)
	for _, played := range []int{0, 1, 50, 1000} {
		x.Go(played)
		before := x.Tell()
		keys, _ := x.Keys(1)
		for _, n := range []int{-1, -2, api.MaxFuel + 1, 2 * api.MaxFuel, math.MaxInt, math.MinInt, math.MinInt32, 1 << 32} {
			if e := x.Go(n); e != api.ErrArg {
				t.Errorf("Go(%d) behind %d = %d, want ErrArg", n, played, e)
			}
			if s := x.Tell(); s != before {
				t.Errorf("Go(%d): %+v, before %+v", n, s, before)
			}
			wantKeys(t, x, 1, keys...)
		}
		if e := x.Go(0); e != api.OK || x.Tell() != before {
			t.Errorf("Go(0) = %d: %+v, before %+v", e, x.Tell(), before)
		}
	}
}

func TestGoBehindTheEnd(t *testing.T) {
	for _, text := range []string{"end", "num 14 exit", "num 0 num 0 div drop end", "num 1 field drop end"} {
		d := newDeck()
		x := d.code(0, d.set(1, "k", 1)+d.say("out")+text).code(2, d.set(1, "j", 1)+"end").open(t, nil, nil)
		x.Go(100)
		before := x.Tell()
		if before.Status == api.StGoing {
			t.Errorf("%s: %+v", text, before)
		}
		keys, _ := x.Keys(1)
		for _, n := range []int{0, 1, 7, api.MaxFuel} {
			if e := x.Go(n); e != api.OK || x.Tell() != before {
				t.Errorf("%s: Go(%d) behind the end = %d: %+v, before %+v", text, n, e, x.Tell(), before)
			}
			wantKeys(t, x, 1, keys...)
		}
	}
}

func TestGoStopsJustThere(t *testing.T) {
	d := newDeck()
	for n := range 6 { // the run has four instructions
		x := d.code(0, d.say("a")+"end").open(t, nil, nil)
		x.Go(n)
		want := api.State{Used: min(n, 4)}
		if n >= 2 {
			want.Output = "a\n"
		}
		if n >= 4 {
			want.Status = api.StEnded
		}
		if s := x.Tell(); s != want {
			t.Errorf("behind %d: %+v, want %+v", n, s, want)
		}
	}
}

// P12

func TestKeysOfNoArray(t *testing.T) {
	for _, arrays := range []int{0, 1, 5, 1000} {
		d := newDeck()
		d.Arrays = arrays
		x := d.open(t, nil, nil)
		for range 2 {
			for _, array := range []int{-1, arrays, arrays + 1, math.MaxInt, math.MinInt, 1 << 32, -1 << 32} {
				if keys, e := x.Keys(array); keys != nil || e != api.ErrArg {
					t.Errorf("Keys(%d) of %d = %q, %d", array, arrays, keys, e)
				}
			}
			for _, array := range []int{0, arrays - 1} {
				if keys, e := x.Keys(array); arrays > 0 && (len(keys) != 0 || e != api.OK) {
					t.Errorf("Keys(%d) of %d = %q, %d", array, arrays, keys, e)
				}
			}
			x.Go(10)
		}
	}
}

func TestTellAndKeysChangeNothing(t *testing.T) {
	d, records, draws := busy()
	x, y := d.open(t, records, draws), d.open(t, records, draws)
	for range 140 {
		x.Go(1)
		for range 3 {
			x.Tell()
			x.Keys(1)
			x.Keys(-1)
		}
		y.Go(1)
		if x.Tell() != y.Tell() {
			t.Fatalf("%+v, %+v", x.Tell(), y.Tell())
		}
	}
}

// P1

// hardRuns is code that a machine could lose its way or much time in.
func hardRuns(d *deck) []string {
	slow := d.pattern("(" + strings.Repeat("a|", 22) + "a)*b")
	return []string{
		"again: jump again", "again: nil drop jump again", "again: getline drop draw drop jump again",
		fmt.Sprintf("again: %s find %d drop jump again", d.lit(as(100)), slow),
		fmt.Sprintf("again: %s swap %d drop jump again", d.lits("x", as(100)), slow),
		fmt.Sprintf("again: %s split 1 %d drop jump again", d.lit(strings.Repeat("a,", 15)), d.pattern(",")),
		"again: " + d.apply("setfield", 50, "a") + d.apply("setfield", 0, as(100)) + "jump again",
		d.fill(1, 30) + "again: keys 1 in: each out drop jump in out: jump again",
		d.fill(1, 30) + "again: " + times(100, "keys 1") + times(100, "drop") + "jump again",
		"again: " + times(8, "nil") + "call 6 drop jump again",
		times(1024, "nil") + times(1024, "drop") + "end",
		"again: " + times(1000, d.lit("")) + "print 1000 jump again",
	}
}

func TestRunsEndAndDoNotPanic(t *testing.T) {
	t.Parallel()
	begin := time.Now()
	d := newDeck()
	texts := hardRuns(d)
	for _, text := range texts {
		x := d.code(0, text).open(t, make([]string, 50), make([]int, 50))
		if e := x.Go(api.MaxFuel); e != api.OK {
			t.Errorf("%.100s: %d", text, e)
		}
		if s := x.Tell(); s.Used > api.MaxFuel || s.Status == api.StGoing && s.Used != api.MaxFuel {
			t.Errorf("%.100s: %+v", text, s)
		}
	}
	if spent := time.Since(begin); spent > 2*time.Minute {
		t.Errorf("the runs took %v", spent)
	}
}

// P2

func TestScriptsAreNotKept(t *testing.T) {
	d, wantRecords, wantDraws := busy()
	want := d.run(t, wantRecords, wantDraws)
	for _, written := range []int{0, 1, 9, 30, 100} {
		records, draws := roomy(slices.Clone(wantRecords), "spare"), roomy(slices.Clone(wantDraws), 77)
		x := d.open(t, records, draws)
		if !slices.Equal(records, wantRecords) || !slices.Equal(draws, wantDraws) {
			t.Errorf("Open wrote into its lists: %q, %v", records, draws)
		}
		x.Go(written)
		for i := range records {
			records[i] = "written 1"
		}
		draws[0] = 15
		_, _ = append(records, "more"), append(draws, 5)
		x.Go(api.MaxFuel)
		if s := x.Tell(); s != want {
			t.Errorf("written into behind %d: %+v, want %+v", written, s, want)
		}
	}
}

func TestSpareRoomIsNotWrittenInto(t *testing.T) {
	d, wantRecords, wantDraws := busy()
	records, draws := roomy(slices.Clone(wantRecords), "spare"), roomy(slices.Clone(wantDraws), 77)
	allRecords, allDraws := slices.Clone(records[:cap(records)]), slices.Clone(draws[:cap(draws)])
	d.open(t, records, draws).Go(api.MaxFuel)
	if !slices.Equal(records[:cap(records)], allRecords) || !slices.Equal(draws[:cap(draws)], allDraws) {
		t.Errorf("%q, %v", records[:cap(records)], draws[:cap(draws)])
	}
}

func TestKeysAreNewLists(t *testing.T) {
	d := newDeck()
	x := d.code(0, d.fill(1, 5)+"keys 1 again: each out print 1 jump again out: end").open(t, nil, nil)
	write := func() {
		one, _ := x.Keys(1)
		two, _ := x.Keys(1)
		want := slices.Clone(two)
		one = one[:cap(one)]
		for i := range one {
			one[i] = "written"
		}
		_ = append(one[:0], "more", "and", "more")
		if !slices.Equal(two, want) {
			t.Errorf("two answers hang together: %q, %q", two, want)
		}
	}
	for range 60 {
		x.Go(1)
		write()
	}
	wantKeys(t, x, 1, keysUpTo(5)...)
	if s := x.Tell(); s.Output != lines(keysUpTo(5)...) || s.Status != api.StEnded {
		t.Errorf("%+v", s)
	}
	before, _ := x.Keys(1)
	y := d.code(0, d.fill(1, 5)+d.lit("k0")+"adel 1 aclear 1 "+d.set(1, "new", 1)+"end").open(t, nil, nil)
	y.Go(15)
	older, _ := y.Keys(1)
	y.Go(100)
	if !slices.Equal(before, keysUpTo(5)) || !slices.Equal(older, keysUpTo(5)) {
		t.Errorf("what came out hangs on what comes later: %q, %q", before, older)
	}
	wantKeys(t, y, 1, "new")
}

func TestMachinesHaveNothingToDoWithOneAnother(t *testing.T) {
	d, records, draws := busy()
	b := packed(t, d.Module)
	want := d.run(t, records, draws)
	other := newDeck()
	other.code(0, other.fill(1, 3)+other.apply("setfield", 2, "x")+other.say("other")+other.lit(5)+"gstore 0 end")
	wantOther := other.run(t, nil, nil)
	// One behind the other, by turns.
	var machines, others []*glean.Machine
	for range 5 {
		machines = append(machines, d.open(t, records, draws))
		others = append(others, other.open(t, nil, nil))
	}
	for step := range 200 {
		for i := range machines {
			machines[i].Go((step + i) % 3)
			others[i].Go(step % 2)
		}
	}
	for i := range machines {
		if machines[i].Tell() != want || others[i].Tell() != wantOther {
			t.Errorf("by turns: %+v, %+v", machines[i].Tell(), others[i].Tell())
		}
		wantKeys(t, machines[i], 1, "a", "b", "")
		wantKeys(t, others[i], 1, "k0", "k1", "k2")
	}
	// At the same time.
	var group sync.WaitGroup
	for range 8 {
		group.Go(func() {
			for range 50 {
				x, e := glean.Open(b, records, draws)
				if e != api.OK {
					t.Errorf("Open: %d", e)
					return
				}
				for range 140 {
					x.Go(1)
				}
				if s := x.Tell(); s != want {
					t.Errorf("at the same time: %+v, want %+v", s, want)
				}
			}
		})
	}
	group.Wait()
}
