package glean_test

import (
	"fmt"
	"strings"
	"testing"

	"glean/api"
)

// fill is code that lays so many keys, k0 and on, down in an array.
func (d *deck) fill(array, keys int) string {
	out := ""
	for i := range keys {
		out += d.set(array, fmt.Sprintf("k%d", i), i)
	}
	return out
}

// keysUpTo is what fill lays down.
func keysUpTo(n int) (out []string) {
	for i := range n {
		out = append(out, fmt.Sprintf("k%d", i))
	}
	return out
}

// wantOrderOf plays code and asks for the keys of array 1, then of the others.
func wantOrderOf(t *testing.T, d *deck, text string, want ...string) {
	t.Helper()
	x := d.code(0, text+"end").open(t, nil, nil)
	x.Go(api.MaxFuel)
	if s := x.Tell(); s.Status != api.StEnded {
		t.Errorf("%s: %+v", text, s)
	}
	wantKeys(t, x, 1, want...)
	for _, other := range []int{0, 2, 3, 4} {
		wantKeys(t, x, other)
	}
}

func TestTheOrderOfKeys(t *testing.T) {
	d := newDeck()
	set := func(key string) string { return d.set(1, key, "v") }
	get := func(key string) string { return d.lit(key) + "aget 1 drop " }
	del := func(key string) string { return d.lit(key) + "adel 1 " }
	in := func(key string) string { return d.lit(key) + "ain 1 drop " }
	for _, c := range []struct {
		text string
		keys string
	}{
		{"", ""}, {set("a") + set("b") + set("c"), "a b c"}, {set("c") + set("b") + set("a"), "c b a"}, {set("a") + set("b") + set("a"), "a b"},
		{get("a") + get("b") + get("a"), "a b"}, {set("a") + get("b") + set("b"), "a b"}, {in("a") + set("b") + in("c"), "b"}, {del("a") + set("b") + del("c"), "b"},
		{set("a") + set("b") + set("c") + del("b"), "a c"}, {set("a") + set("b") + set("c") + del("a"), "b c"}, {set("a") + set("b") + set("c") + del("c"), "a b"},
		{set("a") + set("b") + del("a") + set("a"), "b a"}, {set("a") + set("b") + del("a") + get("a"), "b a"}, {set("a") + set("b") + del("b") + set("b"), "a b"}, {set("a") + set("b") + set("c") + del("b") + set("a") + set("b"), "a c b"},
		{set("a") + set("b") + "aclear 1 ", ""}, {set("a") + set("b") + "aclear 1 " + set("b") + set("a"), "b a"}, {"aclear 1 " + set("a"), "a"}, {set("a") + del("a"), ""}, {set("a") + del("a") + del("a") + set("a"), "a"},
		{set("A") + set("a") + set("1") + set("01"), "A a 1 01"},
	} {
		wantOrderOf(t, d, c.text, strings.Fields(c.keys)...)
	}
	wantOrderOf(t, d, set("")+set(" ")+set("\x00"), "", " ", "\x00")
	wantOrderOf(t, d, set(xs(100))+set(xs(99)), xs(100), xs(99))
}

func TestArraysHaveWhatWasLaidThere(t *testing.T) {
	for _, v := range everyValue() {
		d := newDeck()
		d.wantLeft(t, d.set(1, "k", v)+d.lit("k")+"aget 1", v)
		d.wantLeft(t, d.set(1, "k", "other")+d.set(1, "k", v)+d.lit("k")+"aget 1", v)
		d.wantLeft(t, d.set(1, "k", v)+d.set(1, "j", "other")+d.set(2, "k", "other")+d.lit("k")+"aget 1", v)
		d.wantLeft(t, d.set(1, "k", v)+d.lit("k")+"adel 1 "+d.lit("k")+"aget 1", nil)
		d.wantLeft(t, d.set(1, "k", v)+"aclear 1 "+d.lit("k")+"aget 1", nil)
		d.wantLeft(t, d.set(1, "k", v)+"aclear 2 "+d.lit("k")+"adel 2 "+d.lit("k")+"aget 1", v)
		d.wantLeft(t, d.set(1, "k", v)+d.lit("k")+"ain 1", 1)
	}
	d := newDeck()
	d.wantLeft(t, d.lit("k")+"aget 1", nil)
	d.wantLeft(t, d.lit("k")+"aget 1 drop "+d.lit("k")+"ain 1", 1)
	d.wantLeft(t, d.lit("k")+"ain 1", 0)
	d.wantLeft(t, d.lit("k")+"ain 1 drop "+d.lit("k")+"ain 1", 0)
	d.wantLeft(t, d.set(1, "k", 1)+d.lit("k")+"ain 2", 0)
	d.wantLeft(t, d.set(1, "k", 1)+d.lit("j")+"ain 1", 0)
	d.wantLeft(t, d.set(1, "k", 1)+d.lit("k")+"adel 1 "+d.lit("k")+"ain 1", 0)
	d.wantLeft(t, d.set(1, "k", 1)+"aclear 1 "+d.lit("k")+"ain 1", 0)
	d.wantLeft(t, d.set(1, "1", "one")+d.lit(1)+"totext aget 1", "one")
}

func TestArraysUpToTheirLimit(t *testing.T) {
	d := newDeck()
	full := d.fill(1, 30)
	wantOrderOf(t, d, full, keysUpTo(30)...)
	wantOrderOf(t, d, full+d.set(1, "k0", "new")+d.lit("k29")+"aget 1 drop "+d.lit("more")+"ain 1 drop "+d.lit("more")+"adel 1 ", keysUpTo(30)...)
	wantOrderOf(t, d, full+d.lit("k0")+"adel 1 "+d.set(1, "more", 1), append(keysUpTo(30)[1:], "more")...)
	wantOrderOf(t, d, full+d.lit("k29")+"adel 1 "+d.lit("more")+"aget 1 drop ", append(keysUpTo(29), "more")...)
	wantOrderOf(t, d, full+"aclear 1 "+full, keysUpTo(30)...)
	wantOrderOf(t, d, d.fill(1, 29)+d.lit("k29")+"aget 1 drop ", keysUpTo(30)...)
	d.wantEnd(t, d.fill(2, 30)+d.set(2, "more", 1), api.StFull)
	d.wantEnd(t, d.fill(2, 30)+d.lit("more")+"aget 2 ", api.StFull)
	d.wantEnd(t, d.fill(2, 30)+d.lit("k3")+"adel 2 "+d.set(2, "more", 1)+d.lit("k3")+"aget 2 ", api.StFull)
	d.wantEnd(t, d.fill(2, 30)+d.fill(3, 30)+d.fill(4, 30)+d.set(2, "", 1), api.StFull)
	d.wantEnd(t, d.apply(fmt.Sprintf("split 2 %d drop", d.pattern(",")), strings.Repeat(",", 29))+d.set(2, "31", 1), api.StFull)
}

// each

// going is code that goes through the keys of array 1: it prints each, then
// does what body says; {a}: .. is there for a key that is a.
func (d *deck) going(body string, cases map[string]string) string {
	out := "keys 1 again: each out dup print 1 " + body + " "
	for key, text := range cases {
		label := "not" + key
		out += "dup " + d.lit(key) + "eq jz " + label + " " + text + label + ": "
	}
	return out + "drop jump again out: "
}

func TestEach(t *testing.T) {
	d := newDeck()
	begin := d.set(1, "a", 1) + d.set(1, "b", 2) + d.set(1, "c", 3) + d.set(1, "d", 4)
	set := func(key string) string { return d.set(1, key, "new") }
	del := func(key string) string { return d.lit(key) + "adel 1 " }
	for _, c := range []struct {
		name  string
		body  string
		cases map[string]string
		given string
		left  string
	}{
		{"nothing changes", "", nil, "a b c d", "a b c d"},
		{"each is taken out at its turn", "dup adel 1 ", nil, "a b c d", ""},
		{"a later one is taken out", "", map[string]string{"a": del("c")}, "a b d", "a b d"},
		{"the next one is taken out", "", map[string]string{"a": del("b")}, "a c d", "a c d"},
		{"the last one is taken out", "", map[string]string{"c": del("d")}, "a b c", "a b c"},
		{"all later ones are taken out", "", map[string]string{"b": del("c") + del("d")}, "a b", "a b"},
		{"all are taken out", "", map[string]string{"b": "aclear 1 "}, "a b", ""},
		{"one that was given is taken out", "", map[string]string{"b": del("a")}, "a b c d", "b c d"},
		{"others come in", "", map[string]string{"a": set("e"), "d": set("f")}, "a b c d", "a b c d e f"},
		{"values are changed", "", map[string]string{"a": set("a") + set("d"), "b": set("c")}, "a b c d", "a b c d"},
		{"a later one goes and comes in again", "", map[string]string{"a": del("b") + set("b")}, "a b c d", "a c d b"},
		{"one goes, and comes in again ahead of its turn", "", map[string]string{"a": del("c"), "b": set("c")}, "a b c d", "a b d c"},
		{"one goes, and comes in again behind its turn", "", map[string]string{"a": del("b"), "c": set("b")}, "a c d", "a c d b"},
		{"one that was given goes and comes in again", "", map[string]string{"b": del("a") + set("a")}, "a b c d", "b c d a"},
		{"all go, some come in again", "", map[string]string{"a": "aclear 1 " + set("d") + set("b")}, "a b d", "d b"},
		{"another array is changed", "", map[string]string{"a": d.lit("b") + "adel 2 aclear 3 "}, "a b c d", "a b c d"},
	} {
		x := d.code(0, begin+d.going(c.body, c.cases)+d.lit("end")+"print 1 end").open(t, nil, nil)
		x.Go(api.MaxFuel)
		if s := x.Tell(); s.Output != strings.ReplaceAll(c.given+" end ", " ", "\n") || s.Status != api.StEnded {
			t.Errorf("%s: %+v", c.name, s)
		}
		wantKeys(t, x, 1, strings.Fields(c.left)...)
	}
}

func TestEachCounts(t *testing.T) {
	d := newDeck()
	text := d.set(1, "a", 1) + d.set(1, "b", 1) + d.set(1, "c", 1) + d.lit("below") + "keys 1 aclear 1 " + d.set(1, "c", 1) + "each out "
	d.code(0, text+"print 1 drop print 1 end out: drop end")
	x := d.open(t, nil, nil)
	x.Go(count(text)) // passing a and b over is one instruction
	x.Go(1)
	if s := x.Tell(); s.Output != "c\n" {
		t.Errorf("behind the keys that are gone: %+v", s)
	}
	x.Go(2)
	if s := x.Tell(); s.Output != "c\nbelow\n" {
		t.Errorf("the cell of keys stays below the key: %+v", s)
	}
	d.wantOutput(t, d.lit("below")+"keys 1 each out drop drop out: print 1 ", "below") // the cell is gone
	d.wantOutput(t, "keys 1 "+d.set(1, "a", 1)+"each out print 1 drop out: ")          // as they were then
}

func TestEachKnowsItsArray(t *testing.T) {
	d := newDeck()
	begin := d.set(1, "a", 1) + d.set(1, "b", 1) + d.set(2, "b", 1) + d.set(2, "a", 1)
	// Within each key of array 1 all of array 2, from which b goes meanwhile.
	inner := "keys 2 in: each done dup print 1 " + d.lit("b") + "adel 2 drop jump in done: "
	d.wantOutput(t, begin+"keys 1 again: each out print 1 "+inner+"jump again out: ", "a", "b", "a", "b", "a")
	// Of one array twice at the same time.
	d.wantOutput(t, begin+"keys 1 keys 1 each out print 1 each out print 1 drop each x print 1 drop x: end out: drop", "a", "b", "a")
	// Keys that came from elsewhere to the same each.
	d.wantOutput(t, d.set(1, "a", 1)+d.set(2, "b", 1)+"keys 2 jump go back: keys 1 go: each out print 1 jump go out: gload 1 test jz more end more: "+d.lit(1)+"gstore 1 jump back", "b", "a")
}

func TestEachOfKeysThatSplitFills(t *testing.T) {
	d := newDeck()
	split := func(s string) string { return d.apply(fmt.Sprintf("split 1 %d drop", d.pattern(",")), s) }
	begin := split("a,b,c,d")
	for _, c := range []struct {
		text  string
		given string
	}{
		{split("x,y"), "1 2"}, {split("x"), "1"}, {split("") + d.set(1, "3", "z"), "1 3"}, {split("x,y,z,u,v"), "1 2 3 4"},
	} {
		d.wantOutput(t, begin+d.going("", map[string]string{"1": c.text}), strings.Fields(c.given)...)
	}
	d.wantOutput(t, d.set(1, "2", "old")+d.set(1, "k", "old")+split("x,y")+d.going("dup aget 1 "+show, nil), "1", "x", "2", "y")
}
