package glean_test

import (
	"fmt"
	"strings"
	"testing"

	"glean/api"
)

// fieldsOf is code that prints NF, and the record and all fields in brackets.
func (d *deck) fieldsOf(fields int) string {
	out := "nf " + show
	for n := range fields + 1 {
		out += d.lits("[", n) + "field totext cat " + d.lit("]") + "cat print 1 "
	}
	return out
}

// wantFields plays code with a record, and asks for NF, the record, the fields.
func wantFields(t *testing.T, d *deck, record, text string, fields ...string) {
	t.Helper()
	n := len(fields) - 1
	want := fmt.Sprintf("%d\n", n)
	for _, field := range fields {
		want += "[" + field + "]\n"
	}
	d.code(1, text+d.fieldsOf(n)+"end")
	if s := d.run(t, []string{record}, nil); s.Output != want || s.Status != api.StEnded {
		t.Errorf("the record %q, %s: %+v, want %q", record, text, s, want)
	}
}

func TestFieldsOfRecords(t *testing.T) {
	for _, c := range []struct {
		record string
		fields []string
	}{
		{"", nil}, {" ", nil}, {" \t\n ", nil}, {"a", []string{"a"}}, {"  a  b ", []string{"a", "b"}}, {"a\tb\nc", []string{"a", "b", "c"}}, {"a\rb\vc\fd", []string{"a\rb\vc\fd"}}, {"a\u00a0b", []string{"a\u00a0b"}}, {"\x00 \xff\xfe", []string{"\x00", "\xff\xfe"}}, {"1 +2 -3", []string{"1", "+2", "-3"}}, {"é日 本", []string{"é日", "本"}}, {"a\x85b\xa0c", []string{"a\x85b\xa0c"}},
		{"a b c d e f g h", strings.Split("abcdefgh", "")},
	} {
		wantFields(t, newDeck(), c.record, "", append([]string{c.record}, c.fields...)...)
	}
	d := newDeck()
	long := strings.Repeat("a ", 50) // MaxFields fields
	d.code(1, "nf "+show+d.lit(50)+"field "+show+d.lit(0)+"field totext len "+show+"end")
	if s := d.run(t, []string{long}, nil); s.Output != "50\na\n100\n" {
		t.Errorf("fifty fields: %+v", s)
	}
}

func TestField(t *testing.T) {
	for _, c := range []struct {
		n    int
		want any
	}{
		{0, " 7 x"}, {1, numeral("7")}, {2, "x"}, {3, nil}, {4, nil}, {50, nil}, {51, nil}, {100, nil}, {most, nil},
	} {
		d := newDeck()
		d.code(1, d.apply("field", c.n)+d.probe()+"end")
		if s := d.run(t, []string{" 7 x"}, nil); s.Output != probed(c.want) {
			t.Errorf("field %d is not %v: %+v", c.n, c.want, s)
		}
	}
	d := newDeck()
	d.wantLeft(t, d.apply("field", 0), "") // at first: an empty record, which is a text
	d.wantLeft(t, d.apply("field", 1), nil)
	d.wantLeft(t, "nf", 0)
	for _, n := range []int{-1, -2, -50, -most} {
		d.wantEnd(t, d.apply("field", n), api.StField)
	}
}

func TestSetfield(t *testing.T) {
	d := newDeck()
	set := func(n int, v any) string { return d.apply("setfield", n, v) }
	for _, c := range []struct {
		record, text string
		fields       []string
	}{
		{"x y", set(0, " k  v w "), []string{" k  v w ", "k", "v", "w"}},
		{"x y", set(0, ""), []string{""}},
		{"x y", set(0, nil), []string{""}},
		{"x y", set(0, -12), []string{"-12", "-12"}},
		{"x y", set(0, numeral(" 5 ")), []string{" 5 ", "5"}},
		{"", set(1, "a"), []string{"a", "a"}},
		{"  x \t y ", set(1, "a"), []string{"a y", "a", "y"}},
		{"  x \t y ", set(2, "a"), []string{"x a", "x", "a"}},
		{"x y", set(3, "a"), []string{"x y a", "x", "y", "a"}},
		{"x y", set(5, "a"), []string{"x y   a", "x", "y", "", "", "a"}},
		{"", set(3, "a"), []string{"  a", "", "", "a"}},
		{"x y", set(1, ""), []string{" y", "", "y"}},
		{"x y", set(2, nil), []string{"x ", "x", ""}},
		{"x y", set(4, ""), []string{"x y  ", "x", "y", "", ""}},
		{"x y", set(1, " a b\n"), []string{" a b\n y", " a b\n", "y"}}, // it stays one field
		{"x y", set(1, 42), []string{"42 y", "42", "y"}},
		{"x y", set(1, numeral(" +4 ")), []string{" +4  y", " +4 ", "y"}},
		{"x y", set(1, "a") + set(2, "b") + set(1, "c"), []string{"c b", "c", "b"}},
		{"x y", set(3, "a b") + set(1, "c"), []string{"c y a b", "c", "y", "a b"}},
		{"x y", set(3, "") + "nf " + d.lit("z") + "setfield ", []string{"x y z", "x", "y", "z"}},
		{"x y", set(3, "a b") + d.lit(0) + d.lit(0) + "field setfield ", []string{"x y a b", "x", "y", "a", "b"}}, // the record, laid down anew
		{"x y", set(5, "a") + set(0, "b"), []string{"b", "b"}},
	} {
		wantFields(t, d, c.record, c.text, c.fields...)
	}
}

func TestSetfieldAtItsEnds(t *testing.T) {
	for _, n := range []int{-1, -most, 51, 52, 100, most} {
		d := newDeck()
		d.wantEnd(t, d.apply("setfield", n, "a"), api.StField)
		d.wantEnd(t, d.apply("setfield", n, xs(100)), api.StField)
	}
	d := newDeck()
	d.wantOutput(t, d.apply("setfield", 50, "a")+"nf "+show+d.lit(0)+"field "+show+d.apply("setfield", 50, xs(51))+d.apply("setfield", 49, "")+d.lit(0)+"field totext len "+show, "50", strings.Repeat(" ", 49)+"a", "100")
	for _, c := range []struct {
		n    int
		text string
		fits bool
	}{
		{50, xs(51), true}, {50, xs(52), false}, {1, xs(100), true}, {2, xs(99), true}, {2, xs(100), false}, {0, xs(100), true},
	} {
		if c.fits {
			d.wantOutput(t, d.apply("setfield", c.n, c.text)+d.lit(0)+"field totext len "+show, "100")
		} else {
			d.wantEnd(t, d.apply("setfield", c.n, c.text), api.StLong)
		}
	}
	d = newDeck()
	d.code(1, d.apply("setfield", 3, xs(96))+"nf "+show+d.apply("setfield", 1, "yy")+"end")
	if s := d.run(t, []string{"x y"}, nil); s.Status != api.StLong || s.Output != "3\n" || s.Used != 1+3+3+3 {
		t.Errorf("a record that grows too long: %+v", s)
	}
}

func TestFieldsHangOnTheRecordAlone(t *testing.T) {
	d := newDeck()
	d.code(0, d.apply("setfield", 2, "set")+d.fieldsOf(2)+"getline drop "+d.fieldsOf(1)+"end")
	d.code(1, d.fieldsOf(2)+d.apply("setfield", 1, "new")+"end")
	d.code(2, d.fieldsOf(2)+"end")
	want := "2\n[ set]\n[]\n[set]\n" + "1\n[one]\n[one]\n" + "2\n[two 2]\n[two]\n[2]\n" + "0\n[]\n[]\n[]\n" + "1\n[new]\n[new]\n[]\n"
	if s := d.run(t, []string{"one", "two 2", ""}, nil); s.Output != want || s.Status != api.StEnded {
		t.Errorf("%+v, want %q", s, want)
	}
}
