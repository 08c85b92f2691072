package glean_test

import (
	"fmt"
	"strings"
	"testing"
)

// everyValue: nothing, numbers, texts and numerals at the ends of what they
// may be.
func everyValue() []any {
	return []any{
		nil, 0, 1, -1, 5, 10, 999999999, 1000000000, -1000000000,
		"", "0", "5", "10", "a", " ", "05", "-0", "+", "1000000001", "\x00", "\xff", xs(100), strings.Repeat("9", 100),
		numeral("0"), numeral("-0"), numeral("5"), numeral("+5"), numeral(" 7\t\n"), numeral("0000000000000000000000000012"), numeral("1000000000"), numeral("-1000000000"), numeral("-3 "),
	}
}

func TestEveryValueIsKept(t *testing.T) {
	for _, v := range everyValue() {
		d := newDeck()
		d.wantLeft(t, d.lit(v), v)
		d.wantLeft(t, d.lit(v)+"store 5 load 5 ", v)
		d.wantLeft(t, d.lit(v)+"gstore 3 nil store 3 gload 3 ", v)
		d.wantLeft(t, d.set(2, "k", v)+d.lit("k")+"aget 2 ", v)
		d.wantLeft(t, d.lit(v)+"dup drop ", v)
		d.wantLeft(t, d.lit(v)+"dup gstore 1 ", v)
		d.wantLeft(t, d.lits(7, v)+"under drop drop ", v)
		d.wantLeft(t, d.lits(v, 7)+"under drop gstore 1 gstore 2 gload 1 ", v)
		d.code(4, "load 0 ret").wantLeft(t, d.lit(v)+"call 4 ", v)
	}
}

// What looks like a number.

func TestWhatWasReadLooksLikeANumber(t *testing.T) {
	for _, text := range []string{
		"0", "5", "42", " 5", "5 ", "\t\n 5\n\t ", "+5", "-5", " -5 ", "+0", "-0", "007", "1000000000", "-1000000000", "+1000000000",
		strings.Repeat("0", 99) + "1", strings.Repeat("0", 90) + "1000000000", strings.Repeat(" ", 50) + "1" + strings.Repeat("\n", 49),
	} {
		wantRead(t, text, numeral(text))
	}
	for _, text := range []string{
		"", " ", "+", "-", " + ", "a", "5a", "a5", "5 5", "+ 5", "- 5", "--5", "+-5", "5+", "5-", "5.0", ".5", "5.", "1e3", "0x10", "1_000", "1,000",
		"\r5", "5\r", "\v5", "5\f", "5\x00", "\x005", "\u00a05", "٥", "1000000001", "-1000000001", "9999999999", "18446744073709551617", strings.Repeat("9", 100), strings.Repeat("0", 90) + "1000000001",
	} {
		wantRead(t, text, text)
	}
}

// wantRead reads a text as a record, as a field, as a field that was set and as
// a piece.
func wantRead(t *testing.T, text string, want any) {
	t.Helper()
	d := newDeck()
	d.code(1, d.lit(0)+"field "+d.probe()+"end")
	if s := d.run(t, []string{text}, nil); s.Output != probed(want) {
		t.Errorf("the record %q is not %T: %q", text, want, s.Output)
	}
	if fields := strings.FieldsFunc(text, func(r rune) bool { return strings.ContainsRune(" \t\n", r) }); len(fields) == 1 && fields[0] == text {
		d.code(1, d.lit(1)+"field "+d.probe()+"end")
		if s := d.run(t, []string{text}, nil); s.Output != probed(want) {
			t.Errorf("the field %q is not %T: %q", text, want, s.Output)
		}
	}
	d.wantLeft(t, d.apply("setfield", 0, text)+d.lit(0)+"field", want)
	d.wantLeft(t, d.apply("setfield", 1, text)+d.lit(1)+"field", want)
	d.wantLeft(t, d.apply("setfield", 1, text)+d.lit(0)+"field", want)
	if text != "" {
		d.wantLeft(t, d.lit(text)+fmt.Sprintf("split 2 %d drop ", d.pattern("^"))+d.lit("1")+"aget 2", want)
	}
}

// The numbers of values.

func TestTonum(t *testing.T) {
	for _, c := range []struct {
		v any
		n int
	}{
		{nil, 0}, {0, 0}, {-7, -7}, {1000000000, 1000000000}, {-1000000000, -1000000000},
		{"", 0}, {"5", 5}, {"-5", -5}, {"+5", 5}, {" \t\n12x", 12}, {"12 13", 12}, {"007", 7}, {"+ 5", 0}, {"- 5", 0}, {"--5", 0}, {"+-5", 0}, {"+", 0}, {"-", 0}, {"x5", 0}, {"\r5", 0}, {"\v5", 0}, {"1e3", 1}, {"0x10", 0}, {"3.9", 3}, {"-3.9", -3}, {"5\xff", 5}, {"\x005", 0},
		{"999999999", 999999999}, {"1000000000", 1000000000}, {"1000000001", 1000000000}, {"-1000000000", -1000000000}, {"-1000000001", -1000000000}, {"10000000000x", 1000000000}, {"9223372036854775808", 1000000000}, {"-18446744073709551616", -1000000000}, {strings.Repeat("9", 100), 1000000000}, {"-" + strings.Repeat("9", 99), -1000000000}, {strings.Repeat("0", 99) + "5", 5},
		{numeral("5"), 5}, {numeral(" -5 "), -5}, {numeral("+1000000000"), 1000000000}, {numeral("-0"), 0},
	} {
		d := newDeck()
		d.wantLeft(t, d.lit(c.v)+"tonum", c.n)
	}
}

func TestTotext(t *testing.T) {
	for _, c := range []struct {
		v    any
		text string
	}{
		{nil, ""}, {0, "0"}, {-7, "-7"}, {10, "10"}, {1000000000, "1000000000"}, {-1000000000, "-1000000000"},
		{"", ""}, {" a ", " a "}, {"007", "007"}, {xs(100), xs(100)}, {numeral(" 5\n"), " 5\n"}, {numeral("+007"), "+007"}, {numeral("0"), "0"},
	} {
		d := newDeck()
		d.wantLeft(t, d.lit(c.v)+"totext", c.text) // a text, whatever it looks like
	}
}

func TestTest(t *testing.T) {
	for _, c := range []struct {
		v     any
		holds int
	}{
		{nil, 0}, {0, 0}, {1, 1}, {-1, 1}, {1000000000, 1}, {"", 0}, {"0", 1}, {" ", 1}, {"-0", 1}, {"a", 1}, {"\x00", 1}, {xs(100), 1},
		{numeral("0"), 0}, {numeral("-0"), 0}, {numeral(" +000 "), 0}, {numeral("1"), 1}, {numeral("-1"), 1}, {numeral("1000000000"), 1},
	} {
		d := newDeck()
		d.wantLeft(t, d.lit(c.v)+"test", c.holds)
	}
}

// Comparing.

func TestCompare(t *testing.T) {
	for _, c := range []struct {
		x, y  any
		order int
	}{
		{9, 10, -1}, {-10, -9, -1}, {5, 5, 0}, {-1000000000, 1000000000, -1}, {0, nil, 0}, {nil, nil, 0}, {nil, 1, -1}, {nil, -1, 1},
		{numeral("9"), numeral("10"), -1}, {numeral("9"), 10, -1}, {numeral("+1"), numeral(" 1 "), 0}, {numeral("007"), 7, 0}, {numeral("-0"), nil, 0}, {numeral("0"), 0, 0}, {numeral("-3"), numeral("007"), -1},
		{"9", "10", 1}, {"9", 10, 1}, {"9", numeral("10"), 1}, {"10", 10, 0}, {"1", numeral("+1"), 1}, {"+1", numeral("+1"), 0}, {"007", 7, -1}, {"-1", -2, -1},
		{"", nil, 0}, {"a", nil, 1}, {"", 0, -1}, {"0", nil, 1}, {"0", 0, 0}, {"0", "", 1}, {" ", nil, 1},
		{"a", "b", -1}, {"a", "ab", -1}, {"ab", "b", -1}, {"a", "a", 0}, {"B", "a", -1}, {"\x7f", "\x80", -1}, {"\xff", "é", 1}, {"a\x00", "a", 1}, {xs(100), xs(99), 1}, {xs(100), xs(100), 0}, {xs(99) + "y", xs(100), 1},
	} {
		wantOrder(t, c.x, c.y, c.order)
		wantOrder(t, c.y, c.x, -c.order)
	}
}

func wantOrder(t *testing.T, x, y any, order int) {
	t.Helper()
	d := newDeck()
	holds := map[string]bool{"lt": order < 0, "le": order <= 0, "eq": order == 0, "ne": order != 0, "gt": order > 0, "ge": order >= 0}
	for name, isSo := range holds {
		d.wantLeft(t, d.apply(name, x, y), oneIf(isSo))
	}
}

func TestCompareByTheWords(t *testing.T) {
	d := newDeck()
	for _, x := range everyValue() {
		for _, y := range everyValue() {
			want := ""
			text := ""
			for _, name := range []string{"lt", "le", "eq", "ne", "gt", "ge"} {
				text += d.apply(name, x, y) + show
				want += fmt.Sprintf("%d\n", compareByTheWords(name, compareValues(x, y)))
			}
			if s := d.code(0, text+"end").run(t, nil, nil); s.Output != want {
				t.Errorf("%T %q and %T %q: %q, want %q", x, x, y, y, s.Output, want)
			}
		}
	}
}
