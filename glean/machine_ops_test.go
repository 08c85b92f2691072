package glean_test

import (
	"fmt"
	"strings"
	"testing"

	"glean/api"
	"glean/glean"
)

const most = 1000000000 // MaxNumber, by the document

func TestNum(t *testing.T) {
	d := newDeck()
	for operand, want := range map[int]int{0: 0, 1: -1, 2: 1, 3: -2, 10: 5, 127: -64, 128: 64, 1999999998: 999999999, 1999999999: -most, 2000000000: most} {
		d.wantLeft(t, fmt.Sprintf("num %d", operand), want)
	}
}

func TestArithmetic(t *testing.T) {
	for _, c := range []struct {
		name       string
		x, y, left int
	}{
		{"add", 2, 3, 5}, {"add", -2, -3, -5}, {"add", most, 0, most}, {"add", most - 1, 1, most}, {"add", most, -most, 0}, {"add", 1 - most, -1, -most}, {"add", most, -1, most - 1},
		{"sub", 2, 3, -1}, {"sub", 3, 2, 1}, {"sub", -most, -most, 0}, {"sub", 0, most, -most}, {"sub", 0, -most, most}, {"sub", -1, most - 1, -most},
		{"mul", 6, 7, 42}, {"mul", -6, 7, -42}, {"mul", 0, most, 0}, {"mul", most, 1, most}, {"mul", -1, most, -most}, {"mul", 31250, 32000, most}, {"mul", -31250, 32000, -most}, {"mul", -100000, -10000, most},
		{"div", 7, 2, 3}, {"div", -7, 2, -3}, {"div", 7, -2, -3}, {"div", -7, -2, 3}, {"div", 0, 5, 0}, {"div", 1, most, 0}, {"div", -1, 2, 0}, {"div", most, -1, -most}, {"div", -most, -1, most}, {"div", -most, 1, -most}, {"div", most, most, 1},
		{"mod", 7, 2, 1}, {"mod", -7, 2, -1}, {"mod", 7, -2, 1}, {"mod", -7, -2, -1}, {"mod", 6, 3, 0}, {"mod", 0, -5, 0}, {"mod", 5, most, 5}, {"mod", -most, most, 0}, {"mod", -most, 999999999, -1}, {"mod", most, -1, 0},
	} {
		d := newDeck()
		d.wantLeft(t, d.apply(c.name, c.x, c.y), c.left)
	}
}

func TestArithmeticBeyondNumbers(t *testing.T) {
	for _, c := range []struct {
		name string
		x, y int
	}{
		{"add", most, 1}, {"add", 1, most}, {"add", -most, -1}, {"add", most, most}, {"add", -most, -most}, {"add", 500000000, 500000001},
		{"sub", most, -1}, {"sub", -most, 1}, {"sub", -1, most}, {"sub", most, -most}, {"sub", -most, most}, {"sub", 1, -most},
		{"mul", most, 2}, {"mul", 2, -most}, {"mul", most, most}, {"mul", -most, most}, {"mul", -most, -most}, {"mul", 31623, 31623}, {"mul", 65536, 65536}, {"mul", 65536, 131072}, {"mul", -32000, 31251}, {"mul", 858993460, 5}, {"mul", 536870912, 8},
	} {
		d := newDeck()
		d.wantEnd(t, d.apply(c.name, c.x, c.y), api.StRange)
	}
	for _, name := range []string{"div", "mod"} {
		for _, x := range []int{0, 1, -1, 7, most, -most} {
			d := newDeck()
			d.wantEnd(t, d.apply(name, x, 0), api.StZero)
		}
	}
}

func TestNegAndNot(t *testing.T) {
	d := newDeck()
	for _, x := range []int{0, 1, -1, 5, most, -most} {
		d.wantLeft(t, d.apply("neg", x), -x)
		d.wantLeft(t, d.apply("not", x), oneIf(x == 0))
	}
}

// Texts.

func TestCat(t *testing.T) {
	for _, c := range []struct{ s, t string }{{"", ""}, {"a", ""}, {"", "b"}, {"a", "b"}, {"1", "2"}, {"\x00", "\xff"}, {xs(50), as(50)}, {xs(100), ""}, {"", xs(100)}, {xs(99), "a"}} {
		d := newDeck()
		d.wantLeft(t, d.apply("cat", c.s, c.t), c.s+c.t)
	}
	for _, c := range []struct{ s, t string }{{xs(100), "a"}, {"a", xs(100)}, {xs(51), xs(50)}, {xs(100), xs(100)}} {
		d := newDeck()
		d.wantEnd(t, d.apply("cat", c.s, c.t), api.StLong)
	}
}

func TestLen(t *testing.T) {
	d := newDeck()
	for _, s := range []string{"", "a", "é", "\x00\xff", " a ", xs(99), xs(100)} {
		d.wantLeft(t, d.apply("len", s), len(s))
	}
}

func TestPart(t *testing.T) {
	for _, c := range []struct {
		s    string
		m, n int
		out  string
	}{
		{"hello", 2, 3, "ell"}, {"hello", 1, 5, "hello"}, {"hello", 1, 6, "hello"}, {"hello", 1, 0, ""}, {"hello", 1, 1, "h"}, {"hello", 5, 1, "o"}, {"hello", 5, 9, "o"}, {"hello", 6, 1, ""}, {"hello", 7, 1, ""},
		{"hello", 0, 1, ""}, {"hello", 0, 2, "h"}, {"hello", 0, 6, "hello"}, {"hello", -1, 3, "h"}, {"hello", -1, 2, ""}, {"hello", -1, 7, "hello"}, {"hello", -1, 100, "hello"}, {"hello", 2, -1, ""}, {"hello", 9, -5, ""}, {"hello", 3, 0, ""},
		{"hello", 1, most, "hello"}, {"hello", 2, most, "ello"}, {"hello", most, most, ""}, {"hello", -most, most, ""}, {"hello", 1 - most, most, ""}, {"hello", 2 - most, most, "h"}, {"hello", 3 - most, most, "he"}, {"hello", -most, -most, ""}, {"hello", most, -most, ""}, {"hello", 1, -most, ""},
		{"", 1, 1, ""}, {"", 0, 5, ""}, {"", 1, most, ""}, {"12345", 2, 2, "23"}, {xs(99) + "y", 100, 1, "y"}, {xs(99) + "y", 1, 100, xs(99) + "y"}, {xs(99) + "y", 1, 99, xs(99)}, {xs(99) + "y", 101, 1, ""}, {"\x00\xff\xfe", 2, 1, "\xff"},
	} {
		d := newDeck()
		d.wantLeft(t, d.apply("part", c.s, c.m, c.n), c.out)
	}
}

func TestIndex(t *testing.T) {
	for _, c := range []struct {
		s, t string
		n    int
	}{
		{"hello", "l", 3}, {"hello", "lo", 4}, {"hello", "hello", 1}, {"hello", "hellox", 0}, {"hello", "x", 0}, {"hello", "", 1}, {"", "", 1}, {"", "a", 0}, {"aaa", "aa", 1}, {"abab", "bab", 2}, {"abcabd", "abd", 4}, {"a*b", "*", 2}, {"A", "a", 0}, {"\x00\xff", "\xff", 2}, {"é", "\xa9", 2}, {xs(99) + "y", "y", 100}, {xs(100), xs(100), 1}, {xs(99), xs(100), 0},
	} {
		d := newDeck()
		d.wantLeft(t, d.apply("index", c.s, c.t), c.n)
	}
}

// Patterns.

func TestFindAndSpan(t *testing.T) {
	for _, c := range []struct {
		p, s       string
		find, span int
	}{
		{"b*", "abb", 1, 0}, {"b+", "abb", 2, 2}, {"a|ab", "xab", 2, 2}, {"c", "ab", 0, -1}, {"", "", 1, 0}, {"a", "", 0, -1}, {"$", "ab", 3, 0}, {"^b", "ab", 0, -1}, {".*", xs(100), 1, 100}, {"y", xs(99) + "y", 100, 1}, {"$", xs(100), 101, 0},
	} {
		d := newDeck()
		d.pattern("other") // so that the number of the pattern counts
		d.wantLeft(t, d.apply(fmt.Sprintf("find %d", d.pattern(c.p)), c.s), c.find)
		d.wantLeft(t, d.apply(fmt.Sprintf("span %d", d.pattern(c.p)), c.s), c.span)
	}
}

func TestSwapInstruction(t *testing.T) {
	for _, c := range []struct{ p, with, text, out string }{
		{"b*", "-", "abba", "-a-a-"}, {"", "x", "ab", "xaxbx"}, {"^a", "", "aab", "ab"}, {"a", "bb", "banana", "bbbnbbnbb"}, {"c", "x", "ab", "ab"}, {"a", "", "aaa", ""}, {"b", "5", "b", "5"},
		{"a", xs(100), "a", xs(100)}, {"a", xs(50), "aa", xs(100)}, {"a", "bb", as(50), strings.Repeat("b", 100)}, {"", "x", as(49), strings.Repeat("xa", 49) + "x"}, {"a*", "", as(100), ""}, {"y", "z", xs(100), xs(100)},
	} {
		d := newDeck()
		d.pattern("other")
		d.wantLeft(t, d.apply(fmt.Sprintf("swap %d", d.pattern(c.p)), c.with, c.text), c.out)
	}
	for _, c := range []struct{ p, with, text string }{
		{"a", "bb", as(51)}, {"", "x", as(50)}, {"a", xs(51), "aa"}, {"a", xs(100), "ab"}, {"$", "x", xs(100)}, {"", xs(100), xs(100)}, {"^", "x", xs(100)},
	} {
		d := newDeck()
		d.wantEnd(t, d.apply(fmt.Sprintf("swap %d", d.pattern(c.p)), c.with, c.text), api.StLong)
	}
}

// wantKeys asks for the keys of an array behind a run.
func wantKeys(t *testing.T, x *glean.Machine, array int, want ...string) {
	t.Helper()
	if keys, e := x.Keys(array); fmt.Sprint(keys) != fmt.Sprint(want) || len(keys) != len(want) || e != api.OK {
		t.Errorf("the keys of array %d are %q (%d), want %q", array, keys, e, want)
	}
}

// numbersUpTo is the texts of the numbers from 1 on.
func numbersUpTo(n int) (out []string) {
	for i := range n {
		out = append(out, fmt.Sprint(i+1))
	}
	return out
}

func TestSplitInstruction(t *testing.T) {
	for _, c := range []struct {
		p, s   string
		pieces []any
	}{
		{",", "a,,b,", []any{"a", "", "b", ""}}, {",", "", nil}, {",", "a", []any{"a"}}, {"x*", "axxb", []any{"a", "b"}}, {",", "1, 2 ,+3,x,1000000001", []any{numeral("1"), numeral(" 2 "), numeral("+3"), "x", "1000000001"}}, {"", "ab", []any{"ab"}}, {",", ",", []any{"", ""}},
		{",", strings.Repeat(",", 29), []any{"", "", "", "", "", "", "", "", "", "", "", "", "", "", "", "", "", "", "", "", "", "", "", "", "", "", "", "", "", ""}},
	} {
		d := newDeck()
		d.pattern("other")
		split := d.apply(fmt.Sprintf("split 3 %d", d.pattern(c.p)), c.s)
		// What was there is gone, also a key that is a number, and its place.
		before := d.set(3, "3", "old") + d.set(3, "k", "old") + d.set(3, "1", "old") + d.set(2, "1", "other")
		d.wantLeft(t, before+split, len(c.pieces))
		for i, piece := range c.pieces {
			d.wantLeft(t, before+split+"drop "+d.lit(fmt.Sprint(i+1))+"aget 3", piece)
		}
		x := d.code(0, before+split+"drop end").open(t, nil, nil)
		x.Go(100)
		wantKeys(t, x, 3, numbersUpTo(len(c.pieces))...)
		wantKeys(t, x, 2, "1")
	}
}

func TestSplitInTooManyPieces(t *testing.T) {
	for _, s := range []string{strings.Repeat(",", 30), strings.Repeat("a,", 30), strings.Repeat(",", 100)} {
		d := newDeck()
		d.wantEnd(t, d.set(2, "k", 1)+d.set(2, "j", 1)+d.apply(fmt.Sprintf("split 2 %d", d.pattern(",")), s), api.StFull)
	}
	d := newDeck() // 30 keys, and 30 pieces instead of them
	text := ""
	for i := range 30 {
		text += d.set(2, fmt.Sprintf("k%d", i), i)
	}
	text += d.apply(fmt.Sprintf("split 2 %d", d.pattern(",")), strings.Repeat(",", 29))
	d.wantOutput(t, text+show, "30")
}

// Cells.

func TestDupUnderDrop(t *testing.T) {
	d := newDeck()
	d.wantOutput(t, d.lits("a", "b")+"dup print 3", "a b b")
	d.wantOutput(t, d.lits("z", "a", "b")+"under print 4", "z b a b")
	d.wantOutput(t, d.lits("a", "b", "c")+"drop print 2", "a b")
	d.wantOutput(t, d.lits("a", 5)+"drop "+d.lit("b")+"nil drop keys 1 drop print 2", "a b")
	d.wantOutput(t, d.lits(2, 7)+"under sub add "+show, "2") // 7, 2, 7: 7 + (2 - 7)
	d.wantOutput(t, d.lits(2, 7)+"under drop sub "+show, "5")
}

// Printing.

func TestPrint(t *testing.T) {
	d := newDeck()
	d.wantOutput(t, d.lit("a")+"print 1", "a")
	d.wantOutput(t, d.lits("a", "b", "c")+"print 3", "a b c")
	d.wantOutput(t, d.lits("a", "b", "c")+"print 2 print 1", "b c", "a")
	d.wantOutput(t, d.lits("", "", "")+"print 3", "  ")
	d.wantOutput(t, d.lit("")+"print 1", "")
	d.wantOutput(t, d.lits("a\n", " b ")+"print 2", "a\n  b ")
	d.wantOutput(t, d.lit("\x00\xff")+"print 1", "\x00\xff")
	d.wantOutput(t, times(1000, d.lit(""))+"print 1000", strings.Repeat(" ", 999))
	d.wantOutput(t, times(9, d.lit(xs(99))+"print 1")+d.lit(xs(99))+"print 1", strings.TrimSuffix(strings.Repeat(xs(99)+"\n", 10), "\n"))
	d.wantOutput(t, times(10, d.lit(xs(99)))+"print 10", strings.TrimSuffix(strings.Repeat(xs(99)+" ", 10), " "))
}

func TestPrintTooMuch(t *testing.T) {
	full := func(d *deck, n int) string { return times(n, d.lit(xs(99))+"print 1") }
	for _, last := range []struct {
		texts []any
		fits  bool
	}{
		{[]any{xs(99)}, true}, {[]any{xs(100)}, false}, {[]any{xs(49), xs(49)}, true}, {[]any{xs(50), xs(49)}, false}, {[]any{xs(98), ""}, true}, {[]any{xs(98), "", ""}, false}, {[]any{"", "", xs(98)}, false}, {[]any{""}, true}, {[]any{xs(100), xs(100), xs(100)}, false},
	} {
		d := newDeck()
		text := full(d, 9) + d.lits(last.texts...) + fmt.Sprintf("print %d ", len(last.texts))
		s := d.code(0, text+"end").run(t, nil, nil)
		want := api.State{Status: api.StEnded, Output: strings.Repeat(xs(99)+"\n", 9), Used: count(text) + 2}
		if last.fits {
			var texts []string
			for _, v := range last.texts {
				texts = append(texts, v.(string))
			}
			want.Output += strings.Join(texts, " ") + "\n"
		} else {
			want.Status, want.Used = api.StOutput, count(text)
		}
		if s != want {
			t.Errorf("%q: %+v, want %+v", last.texts, s, want)
		}
	}
	d := newDeck()
	s := d.code(0, full(d, 10)+d.lit("")+"print 1 end").run(t, nil, nil)
	if s.Status != api.StOutput || len(s.Output) != 1000 || s.Used != 22 {
		t.Errorf("behind 1000 bytes: %+v", s)
	}
	d.wantEnd(t, times(1000, d.lit("a"))+"print 1000", api.StOutput)
	d.wantEnd(t, times(10, d.lit(xs(100)))+"print 10", api.StOutput)
}

// The end of a run.

func TestExit(t *testing.T) {
	for _, code := range []int{0, 1, -1, 7, most, -most} {
		d := newDeck()
		for _, function := range []int{0, 1, 2, 3} {
			text := d.lit("out") + "print 1 " + d.lit(code) + "exit "
			for f := range 3 {
				d.code(f, "end")
			}
			d.code(3, "nil ret").code(function, text+finish(function))
			want := api.State{Status: api.StExit, Code: code, Output: "out\n", Used: 4 + function}
			if function == 3 {
				d.code(0, "call 3 drop end")
				want.Used = 5
			}
			if s := d.run(t, []string{"a"}, nil); s != want {
				t.Errorf("exit with %d in function %d: %+v, want %+v", code, function, s, want)
			}
		}
	}
}
