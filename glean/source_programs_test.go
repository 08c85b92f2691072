package glean_test

// What programs mean: what each prints, and how it ends. Each is held against
// the words, too.

import (
	"fmt"
	"strings"
	"testing"

	"glean/api"
)

// run is a source with its records and draws, and what comes of it.
type run struct {
	source  string
	records []string
	out     []string // its lines
	status  int
	code    int
}

func (c run) hold(t *testing.T, draws ...int) {
	t.Helper()
	want := ""
	for _, line := range c.out {
		want += line + "\n"
	}
	status := c.status
	if status == api.StGoing {
		status = api.StEnded
	}
	if s := runSource(t, c.source, c.records, draws); s.Output != want || s.Status != status || s.Code != c.code {
		t.Errorf("%s %q: %+v, want %q, %d, %d", c.source, c.records, s, want, status, c.code)
	}
	if m := holdMeaning(t, c.source, c.records, draws, 20000); m != nil && (m.Output != want || m.Status != status || m.Code != c.code) {
		t.Errorf("by the words %s %q: %+v, want %q, %d, %d", c.source, c.records, m.State, want, status, c.code)
	}
}

func holdAll(t *testing.T, list []run) {
	t.Helper()
	for _, c := range list {
		c.hold(t)
	}
}

// tell is the source of a BEGIN that does this.
func tell(text string) string { return "BEGIN { " + text + " }" }

// marks is a function that prints its first parameter, and leaves its second.
const marks = " function m(p, q) { print p; return q; }"

func TestItemsAndRules(t *testing.T) {
	holdAll(t, []run{
		{source: "", records: []string{"a", "b"}},
		{source: "END { print 3; } BEGIN { print 1; } { print 2, $0; } BEGIN { print 11; } END { print 33; }", records: []string{"a", "b"}, out: []string{"1", "11", "2 a", "2 b", "3", "33"}},
		{source: "{ print 1; } { print 2; } { print 3; }", records: []string{"a", "b"}, out: []string{"1", "2", "3", "1", "2", "3"}},
		{source: "{ print; }", out: nil},
		{source: "BEGIN { print NR, NF, $0 . \"-\"; } END { print NR, NF, $0; }", records: []string{"a b", "c"}, out: []string{"0 0 -", "2 1 c"}},
		{source: "$1 { print \"y\"; } !$1 { print \"n\"; }", records: []string{"0", "00", "a", "", "-1", "+0", "0x", "1"}, out: []string{"n", "n", "y", "n", "y", "n", "y", "y"}},
		{source: "/a/ { print 1; } /b$/ { print 2; } $2 ~ /b/ { print 3; } NR == 2 { print 4; }", records: []string{"a b", "xb", "c"}, out: []string{"1", "2", "3", "2", "4"}},
		{source: "0 { print 1; } \"\" { print 2; } \"0\" { print 3; } x { print 4; } 1 { print 5; }", records: []string{""}, out: []string{"3", "5"}},
		{source: "x = NR == 2 { print x; }", records: []string{"a", "b", "c"}, out: []string{"1"}},
		{source: "getline { print; }", records: []string{"a", "b", "c"}, out: []string{"b"}},
		{source: "{ getline; print; } END { print NR; }", records: []string{"a", "b", "c"}, out: []string{"b", "c", "3"}},
		{source: "BEGIN { getline; print; } { print \"r\" . $0; }", records: []string{"a", "b"}, out: []string{"a", "rb"}},
		{source: "BEGIN { while (getline) n += 1; } { print \"never\"; } END { print n, getline, NR, $0; }", records: []string{"a", "b"}, out: []string{"2 0 2 b"}},
		{source: "BEGIN { } { } END { } BEGIN { { } } { ; ; { ; } }", records: []string{"a"}},
		{source: "BEGIN { x = 1; } { x += 1; $0 = x; } END { print x, $0, NF; }", records: []string{"a", "b c"}, out: []string{"3 3 1"}},
	})
}

func TestRanges(t *testing.T) {
	records := strings.Fields("x - y xy - x x y - y x")
	lines := func(numbers string) []string { return strings.Fields(numbers) }
	holdAll(t, []run{
		{source: "/x/, /y/ { print NR; }", records: []string{"x", "", "y", "xy", "z"}, out: lines("1 2 3 4")},
		{source: "/x/, /y/ { print NR; }", records: records, out: lines("1 2 3 4 6 7 8 11")},
		{source: "/x/, /x/ { print NR; }", records: records, out: lines("1 4 6 7 11")},
		{source: "/x/, 0 { print NR; }", records: records, out: lines("1 2 3 4 5 6 7 8 9 10 11")},
		{source: "/x/, 1 { print NR; }", records: records, out: lines("1 4 6 7 11")},
		{source: "0, 1 { print NR; }", records: records},
		{source: "NR == 1, NR == 1 { print \"a\"; } { print NR; }", records: []string{"", ""}, out: lines("a 1 2")},
		{source: "NR == 2, NR == 4 { print NR; } NR == 3, NR == 5 { print NR . \"b\"; }", records: records, out: lines("2 3 3b 4 4b 5b")},
		// The first is not worked out while it is open, the second not while it is shut.
		{source: "m(1, /x/), m(2, /y/) { print \"in\"; }" + marks, records: []string{"-", "x", "-", "y", "-"}, out: lines("1 1 2 in 2 in 2 in 1")},
		{source: "a[NR] = 1, NR == 3 { } END { for (k in a) print k; }", records: []string{"", "", "", "", ""}, out: lines("1 4")},
		// A block that leaves does not change whether it is open; nor does a rule that is not come to.
		{source: "/x/, /y/ { print NR; next; } { print \"-\"; }", records: []string{"x", "y", "z"}, out: lines("1 2 -")},
		{source: "NR == 2 { next; } /x/, /y/ { print NR; }", records: []string{"x", "y", "z", "y", "z"}, out: lines("1 3 4")},
		{source: "/x/, /y/ { print NR; getline; }", records: []string{"x", "y", "z", "y", "z"}, out: lines("1 3 5")},
		{source: "/x/, getline { print NR; }", records: []string{"x", "a", "x", "b", "c"}, out: lines("2 4")},
		{source: "getline, 0 { print; }", records: []string{"a", "b", "c"}, out: lines("b c")},
		// Ends of both kinds: what holds.
		{source: "$1, $2 { print NR; }", records: []string{"0 1", "a 0", "0 0", "0 1", "0 1", "1"}, out: lines("2 3 4 6")},
		{source: "1, 1 / 0 { print 1; }", records: []string{"a"}, status: api.StZero},
		{source: "1, 0 { x += 1; if (x == 2) exit x; }", records: []string{"a", "b", "c"}, status: api.StExit, code: 2},
	})
	source, want := "", []string{}
	for i := range 20 { // each range is its own
		source += fmt.Sprintf("NR==%d,NR==%d{print %d;} ", i+1, i+2, i)
	}
	for nr := 1; nr <= 22; nr++ {
		for i := range 20 {
			if nr == i+1 || nr == i+2 {
				want = append(want, fmt.Sprint(i))
			}
		}
	}
	run{source: source, records: make([]string, 22), out: want}.hold(t)
}

func TestChoicesAndLoops(t *testing.T) {
	lines := strings.Fields
	holdAll(t, []run{
		{source: tell("if (1) print 1; if (0) print 2; else print 3; if (\"\") print 4; if (x) print 5; else { print 6; } if (\"0\") print 7; if (a[1]) print 8; if (!x) ; else print 9;"), out: lines("1 3 6 7")},
		{source: tell("while (i < 3) { print i += 1; } print i;"), out: lines("1 2 3 3")},
		{source: tell("while (0) print 1; while (x) print 2; while (\"\") print 3; print 4;"), out: lines("4")},
		{source: tell("while ((i += 1) < 9) { if (i == 2) continue; if (i == 5) break; print i; } print \"end\";"), out: lines("1 3 4 end")},
		{source: tell("while ((i += 1) < 4) { j = 0; while ((j += 1) < 4) { if (j == i) break; if (j == 1) continue; print i . j; } if (i == 2) continue; print i; }"), out: lines("1 32 3")},
		{source: tell("while (1) { while (1) { while (1) break; break; } break; } print 1;"), out: lines("1")},
		{source: tell("while (i < 5) if ((i += 1) % 2) continue; else print i;"), out: lines("2 4")},
		{source: tell("while ((i += 1) < 3) ; print i;"), out: lines("3")},
		{source: tell("while (\"x\" . (i += 1) != \"x3\") ; print i;"), out: lines("3")},
		{source: tell("{ { print 1; } ; { ; print 2; } }"), out: lines("1 2")},
		// exit, next and return from within.
		{source: tell("while (1) { while (1) { if ((i += 1) == 3) exit i; print i; } }"), out: lines("1 2"), status: api.StExit, code: 3},
		{source: "{ while (1) { while (1) { if ((i += 1) % 3 == 0) next; print i; } } } { print \"never\"; }", records: []string{"a", "b"}, out: lines("1 2 4 5")},
		{source: "function f() { while (1) { while (1) { if ((i += 1) % 3 == 0) return i; print i; } } } " + tell("print f(); print f();"), out: lines("1 2 3 4 5 6")},
	})
}

func TestFor(t *testing.T) {
	lines := strings.Fields
	fill := "a[3] = 30; a[1] = 10; a[2] = 20; "
	holdAll(t, []run{
		{source: tell(fill + "for (k in a) print k, a[k];"), out: []string{"3 30", "1 10", "2 20"}},
		{source: tell("for (k in a) print 1; print k . \"-\"; k = 5; for (k in a) ; print k;"), out: lines("- 5")},
		{source: tell(fill + "for (k in a) ; print k, k == 2, k == \"2\", k < 10, k < \"10\";"), out: []string{"2 1 1 0 0"}}, // the key is a text
		{source: tell(fill + "for (k in a) { print k; k = 7; } print k;"), out: lines("3 1 2 7")},
		{source: tell(fill + "for (k in a) { if (k == 1) continue; print k; }"), out: lines("3 2")},
		{source: tell(fill + "for (k in a) { if (k == 1) break; print k; } print k;"), out: lines("3 1")},
		// What is changed within.
		{source: tell(fill + "for (k in a) { print k; delete a[1]; }"), out: lines("3 2")},
		{source: tell(fill + "for (k in a) { print k; delete a; }"), out: lines("3")},
		{source: tell(fill + "for (k in a) { print k; a[k . 0] = 1; } for (k in a) print k;"), out: lines("3 1 2 3 1 2 30 10 20")},
		{source: tell(fill + "for (k in a) { print k; delete a[1]; a[1] = 5; } for (k in a) print k . \"b\";"), out: lines("3 1 2 3b 2b 1b")},
		{source: tell(fill + "for (k in a) { print k; delete a[k]; a[k] = 1; }"), out: lines("3 1 2")},
		{source: tell(fill + "for (k in a) { print k; if (k == 3) delete a[1]; if (k == 2) a[1] = 1; }"), out: lines("3 2")},
		{source: tell(fill + "for (k in a) { print k; split(\"x y\", a, / /); }"), out: lines("3 1 2")},
		{source: tell(fill + "for (k in a) { print k; split(\"\", a, / /); }"), out: lines("3")},
		// Loops within loops.
		{source: tell("a[1]; a[2]; for (i in a) for (j in a) print i . j;"), out: lines("11 12 21 22")},
		{source: tell("a[1]; a[2]; for (i in a) for (i in a) print i;"), out: lines("1 2 1 2")},
		{source: tell("a[1]; a[2]; a[3]; for (i in a) { for (j in a) { if (j == i) break; if (j == 1) continue; print i . j; } if (i == 2) continue; print i; }"), out: lines("1 32 3")},
		{source: tell("a[1]; a[2]; for (i in a) { while (1) { for (j in a) { print i . j; break; } break; } }"), out: lines("11 21")},
		{source: tell("a[1]; a[2]; b[3]; b[4]; for (i in a) for (j in b) { print i . j; delete a[2]; }"), out: lines("13 14")},
		{source: tell("a[1]; for (i in a) { for (j in a) for (k in a) { for (l in a) { break; } continue; } print 1; }"), out: lines("1")},
		// exit, next and return from within.
		{source: tell(fill + "for (k in a) for (j in a) exit k . j;"), status: api.StExit, code: 33},
		{source: "BEGIN { " + fill + "} { for (k in a) for (j in a) { print k . j; next; } } { print 1; }", records: []string{"", ""}, out: lines("33 33")},
		{source: "function f(p) { for (k in a) for (j in a) if (k == p) return k . j; return \"none\"; } " + tell(fill+"x = f(1) . f(4); print x; for (k in a) print f(k);"), out: lines("13none 33 13 23")},
		{source: "function f(p) { for (p in a) print p; return p; } " + tell("a[1]; print f(5), p . \"-\";"), out: []string{"1", "1 -"}},
		{source: "function f(n) { for (k in a) if (n) f(n - 1); else print k; } " + tell("a[1]; a[2]; f(2);"), out: lines("1 2 1 2 1 2 1 2")},
		{source: tell("while ((i += 1) <= 30) a[i]; for (k in a) n += k; print n;"), out: lines("465")},
	})
}

func TestPrintAndDelete(t *testing.T) {
	holdAll(t, []run{
		{source: "{ print; print $0; print $1, $2; }", records: []string{"a b", " c  d ", ""}, out: []string{"a b", "a b", "a b", " c  d ", " c  d ", "c d", "", "", " "}},
		{source: tell("print; print \"\"; print x; print x, x; print 1, -2, \"a\", x, 3;"), out: []string{"", "", "", " ", "1 -2 a  3"}},
		{source: "{ $1 = 5; print; }", records: []string{"07", "a b"}, out: []string{"5", "5 b"}},
		{source: "{ print $1, $1 + 0; }", records: []string{"007", " +5x", "-0"}, out: []string{"007 7", "+5x 5", "-0 0"}},
		{source: tell("print m(1, 2), m(3, 4);") + marks, out: []string{"1", "3", "2 4"}},
		{source: tell("print 1, 1 / 0; print 2;"), status: api.StZero},
		{source: tell("print m(1, 2), 1 / 0, m(3, 4);") + marks, out: []string{"1"}, status: api.StZero},
		{source: tell("x = 5; print x, x += 1, x;"), out: []string{"5 6 6"}},
		{source: tell("a[1]; a[2]; delete a[1]; delete a[3]; print 1 in a, 2 in a; delete a; print 2 in a; delete a; delete a[1]; print 1 in a;"), out: []string{"0 1", "0", "0"}},
		{source: tell("a[10]; delete a[5 + 5]; print 10 in a; a[\"x y\"]; delete a[\"x\" . \" y\"]; print \"x y\" in a; a[\"\"]; delete a[x]; print \"\" in a;"), out: []string{"0", "0", "0"}},
		{source: tell("a[1]; a[2]; a[3]; delete a[m(7, 2)]; for (k in a) print k;") + marks, out: []string{"7", "1", "3"}},
		{source: tell("a[1] = 5; delete a[1]; print a[1] . \"-\", 1 in a;"), out: []string{"- 1"}},
		{source: "{ a[$1]; } END { delete a[\"7\"]; for (k in a) print k; }", records: []string{"07", "7", "+7"}, out: []string{"07", "+7"}},
		// Up to the limit of the output.
		{source: tell("while (1) print \"123456789\";"), out: strings.Split(strings.TrimSpace(strings.Repeat("123456789\n", 100)), "\n"), status: api.StOutput},
		{source: tell("while ((i += 1) <= 9) print \"" + xs(99) + "\"; print \"" + xs(99) + "\"; print;"), out: strings.Fields(strings.Repeat(xs(99)+" ", 10)), status: api.StOutput},
		{source: tell("while ((i += 1) <= 9) print \"" + xs(99) + "\"; print \"" + xs(49) + "\", \"" + xs(49) + "\"; i = 1 / 0;"), out: append(strings.Fields(strings.Repeat(xs(99)+" ", 9)), xs(49)+" "+xs(49)), status: api.StZero},
	})
}

func TestNextAndExit(t *testing.T) {
	holdAll(t, []run{
		{source: "{ if (NR == 2) next; if (NR == 4) exit NR * 2; print; }", records: []string{"a", "b", "c", "d", "e"}, out: []string{"a", "c"}, status: api.StExit, code: 8},
		{source: "{ print 1; next; print 2; } { print 3; } END { print NR; }", records: []string{"a", "b"}, out: []string{"1", "1", "2"}},
		{source: "NR == 1 { next; } { print; }", records: []string{"a", "b"}, out: []string{"b"}},
		{source: "{ next; } END { print; }", records: []string{"a", "b"}, out: []string{"b"}},
		{source: "{ getline; next; } END { print NR; }", records: []string{"a", "b", "c"}, out: []string{"3"}},
		{source: "BEGIN { exit; } END { print 1; }", status: api.StExit},
		{source: "BEGIN { exit 3; print 1; } { print 2; } END { print 3; }", records: []string{"a"}, status: api.StExit, code: 3},
		{source: "END { exit -5; }", records: []string{"a"}, status: api.StExit, code: -5},
		{source: "{ exit $1; }", records: []string{" +12x y", "b"}, status: api.StExit, code: 12},
		{source: "BEGIN { exit \"7a\"; }", status: api.StExit, code: 7}, {source: "BEGIN { exit \"a\"; }", status: api.StExit}, {source: "BEGIN { exit x; }", status: api.StExit}, {source: "BEGIN { exit 1000000000; }", status: api.StExit, code: 1000000000}, {source: "BEGIN { exit \"-99999999999\"; }", status: api.StExit, code: -1000000000}, {source: "BEGIN { exit 3 > 2; }", status: api.StExit, code: 1}, {source: "BEGIN { exit x = 4; }", status: api.StExit, code: 4},
		{source: "BEGIN { exit 1 / 0; }", status: api.StZero},
		{source: "BEGIN { exit m(1, 2); }" + marks, out: []string{"1"}, status: api.StExit, code: 2},
		{source: "function f(p) { print p; exit p; print 9; } BEGIN { x = 1 + f(5); print 8; } END { print 7; }", out: []string{"5"}, status: api.StExit, code: 5},
		{source: "function f(p) { if (p) f(p - 1); else exit 6; } { f(19); }", records: []string{"a"}, status: api.StExit, code: 6},
		{source: "BEGIN { if (0) exit; print 1; } BEGIN { exit 2; } BEGIN { print 3; }", out: []string{"1"}, status: api.StExit, code: 2},
		{source: "f() { print 1; } function f() { exit NR; }", records: []string{"a"}, status: api.StExit, code: 1},
	})
}

func TestCallsOfSources(t *testing.T) {
	holdAll(t, []run{
		{source: "function f(n) { return n < 2 ? 1 : n * f(n - 1); } BEGIN { print f(12); print f(13); }", out: []string{"479001600"}, status: api.StRange},
		{source: "function f(n) { return n < 2 ? 1 : n * f(n - 1); } BEGIN { print f(21); }", status: api.StDepth},
		{source: "function f(n) { if (n > 1) f(n - 1); print n; } BEGIN { f(20); print x += 1; f(20); }", out: append(append(numbersUpTo(20), "1"), numbersUpTo(20)...)},
		{source: "function f(n) { print n; if (n > 1) f(n - 1); } BEGIN { f(21); }", out: strings.Fields("21 20 19 18 17 16 15 14 13 12 11 10 9 8 7 6 5 4 3 2"), status: api.StDepth},
		{source: "function f(n) { f(n); } BEGIN { f(1); }", status: api.StDepth},
		{source: "function f(n) { return g(n - 1); } function g(n) { return n > 0 ? f(n) : 5; } BEGIN { print f(10); print f(11); }", out: []string{"5"}, status: api.StDepth},
		// Arguments are worked out ahead of all, from the left; the depth counts behind that.
		{source: "function f(n) { if (n) f(n - 1); else f(m(1, 2)); } BEGIN { f(19); }" + marks, out: nil, status: api.StDepth},
		{source: "function f(n) { print n; if (n) f(n - 1); else f(x = 1); } BEGIN { f(3); }", out: strings.Fields("3 2 1 0 1 0 1 0 1 0 1 0 1 0 1 0 1 0 1 0"), status: api.StDepth},
		{source: tell("print m(m(1, 2), m(3, 4));") + marks, out: []string{"1", "3", "2", "4"}},
		{source: tell("print f(m(1, 2), m(3, 4), m(5, 6));") + " function f(a, b, c) { return c . b . a; }" + marks, out: []string{"1", "3", "5", "642"}},
		{source: tell("x = 1; print f(x, x += 1, x);") + " function f(a, b, c) { return a . b . c; }", out: []string{"122"}},
		// What a function leaves.
		{source: tell("print f() . \"-\", f() == 0, f() == \"\", !f();") + " function f() { }", out: []string{"- 1 1 1"}},
		{source: tell("print f(1) . \"-\", f(0);") + " function f(p) { if (p) return; return 5; }", out: []string{"- 5"}},
		{source: tell("print f(0) . \"-\";") + " function f(p) { if (p) return 1; }", out: []string{"-"}},
		{source: "{ print f() == 10, f() < 9, g() == 10, g() < 9; } function f() { return $1; } function g() { return $1 . \"\"; }", records: []string{"10.", "010"}, out: []string{"0 1 0 1", "1 0 0 1"}},
		{source: tell("f(1); f(); f(f(2)); print x;") + " function f(p) { x = x . p . \",\"; return p . p; }", out: []string{"1,,2,22,"}},
		{source: tell("print f(1), f(1, 2), f() . \".\"; g();") + " function g() { } function f(a, b) { b = b . a; return b; }", out: []string{"1 21 ."}},
		{source: tell("print f(1, 2, 3);") + " function f(a, b, c, d, e) { d = a; e = b; a = 9; return a . b . c . d . e; }", out: []string{"92312"}},
		{source: tell("x = 3; print f(x), x; print f(x) + f(x) * f(1);") + " function f(p) { p += 1; x = x + 1; return p; }", out: []string{"4 4", "17"}},
		// Parameters are of one call alone.
		{source: "function f(n, s) { s = n; if (n) f(n - 1, 9); print n, s; } BEGIN { f(2); }", out: []string{"0 0", "1 1", "2 2"}},
		{source: "function f(n, s) { s = s . n; if (n) f(n - 1); return s . \";\"; } BEGIN { print f(2), f(1); }", out: []string{"2; 1;"}},
		// In patterns, conditions, keys, fields, other calls.
		{source: "f(NR) { print; } function f(n) { return n % 2; }", records: []string{"a", "b", "c"}, out: []string{"a", "c"}},
		{source: "f(1), f(0) { print; } function f(n) { return NR > n; }", records: []string{"a", "b", "c"}, out: []string{"b", "c"}},
		{source: "{ a[f()] = $f(); $f() = f(); print a[2], $0; } function f() { return 2; }", records: []string{"x y"}, out: []string{"y x 2"}},
		{source: tell("while (f()) print n; if (f() > 3) print \"more\"; for (k in a) print k;") + " function f() { n += 1; a[n]; return n < 3; }", out: []string{"1", "2", "1", "2", "3", "4"}},
		{source: "{ f(); print; } function f() { getline; $2 = \"z\"; next_ = 1; }", records: []string{"a", "b", "c"}, out: []string{"b z", "c z"}},
	})
}
