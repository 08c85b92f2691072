package glean_test

import (
	"fmt"
	"strings"
	"testing"

	"glean/api"
)

func TestOperators(t *testing.T) {
	for _, c := range []struct{ expr, want string }{
		// By numbers.
		{`7 + "3x", 7 - " 2", "3" * "4", 7 / 2, -7 / 2, 7 / -2, 7 % 3, -7 % 3, 7 % -3`, "10 5 12 3 -3 -3 1 -1 1"}, {`-"5", -"x", -x, - -"7y", -0`, "-5 0 0 7 0"}, {`x + 1, "" + 1, "a" + 1, "+5" + 1, "-5 " + 1`, "1 1 1 6 -4"},
		{`999999999 + 1, -999999999 - 1, 31622 * 31622, 1000000000 / -1, "99999999999" + 0`, "1000000000 -1000000000 999950884 -1000000000 1000000000"},
		// By texts.
		{`1 . 2, "a" . x . "b", -1 . -2, (1 < 2) . "", 007 . "7"`, "12 ab -1-2 1 77"}, {`length("abc"), length(123), length(x), length(-10), length("")`, "3 3 0 3 0"},
		{`index("hello", "l"), index("hello", "x"), index(12345, 34), index("a", ""), index("", ""), index("", "a")`, "3 0 3 1 1 0"},
		{`substr("hello", 2, 3), substr("hello", 0, 2), substr("hello", 4), substr("hello", -98), substr("hello", 2, 0) . ".", substr("hello", 2, -1) . ".", substr("hello", 9) . ".", substr(12345, "2x", "2y"), substr("hello", -1000000000, 1000000000) . ".", substr("hello", 1000000000) . ".", substr("hello", x, 3)`, "ell h lo hello . . . 23 . . he"},
		{`match("xaab", /a+/), match("x", /a/), match("", //), match(120, /2/), span("xaab", /a+/), span("x", /a/), span("x", //), span(1222, /2+/)`, "2 0 1 2 2 -1 0 3"},
		{`swap(/a/, "-", "banana"), swap(/a+/, 1, "caat"), swap(/x/, "y", 5), swap(//, "-", "ab"), swap(/1/, 2, 1111), swap(/a/, x, "aba")`, "b-n-n- c1t 5 -a-b- 2222 b"},
		{`"ab" ~ /^b/, "ab" !~ /^b/, 12 ~ /2$/, x ~ /^$/, "a" ~ //, "ab" ~ /b/, "ba" ~ /a/`, "0 1 1 1 1 1 1"},
		// By whether they hold.
		{`!0, !1, !"", !"0", !"a", !x, !!"0", !-1, !a[1]`, "1 0 1 0 0 1 1 0 1"}, {`0 || x, 1 || 0, 0 || "0", "" || "", x || "a", 3 && "0", 3 && x, "" && 1, 2 && 3`, "0 1 1 0 1 1 0 0 1"}, {`1 ? "y" : "n", "" ? "y" : "n", "0" ? "y" : "n", x ? "y" : "n", 0 ? 1 : "z"`, "y n y n z"},
		// Compared.
		{`1 < 2, 2 < 1, 1 < 1, 1 <= 1, 2 <= 1, 1 == 1, 1 == 2, 1 != 2, 1 != 1, 2 > 1, 1 > 1, 1 >= 1, 1 >= 2`, "1 0 0 1 0 1 0 1 0 1 0 1 0"}, {`10 < 9, "10" < "9", 10 < "9", "10" < 9, 10 < 9 . ""`, "0 1 1 1 1"}, {`x == 0, x == "", x == x, x < 1, x < "a", x > -1, x == "0", x == " "`, "1 1 1 1 1 1 0 0"}, {`"a" < "b", "a" < "ab", "ab" < "b", "" < "a", "B" < "a", "a" == "a", "a" == "a "`, "1 1 1 1 1 1 0"}, {`5 == "5", 5 == "05", "5" == 5 + 0, -0 == "0", 100 == "1e2"`, "1 0 1 1 0"}, {`(1 < 2) == 1, (1 < 2) < "1", !x == "1"`, "1 0 1"},
		// in, a[e].
		{`1 in a, a[1] . "-", 1 in a, 01 in a, "1" in a, "01" in a`, "0 - 1 1 1 0"}, {`(a[x] = 5), "" in a, a[""], x in a`, "5 1 5 1"}, {`(a[1] = 2) in a, a[2] = 7, (a[1] = 2) in a, a[a[1]]`, "0 7 1 7"}, {`a[-1] = 3, a["-1"], -1 in a, a["-1" + 0]`, "3 3 1 3"},
		// The values of assignments.
		{`(x = 5) + x, x = "a", x, (x = y) . "-", x = y = 3, x + y`, "10 a a - 3 6"}, {`(a[1] = "07") + 1, a[1], a[1] == 7`, "8 07 0"}, {`($3 = "c") . NF, $0, ($2 = 5) + 1, $0, ($0 = "p q") . NF, $2`, "c3   c 6  5 c p q2 q"}, {`x += 5, x -= 2, x *= 7, x /= 2, x %= 4, x`, "5 3 21 10 2 2"}, {`(x += "3x") . "", x = "4y", x += 1, x`, "3 4y 5 5"},
		{`a[1] += 5, a[1] -= 2, a[1] *= 7, a[1] /= 2, a[1] %= 4, a[1], 2 in a, a[2] += 0, 2 in a`, "5 3 21 10 2 2 0 0 1"}, {`$1 += 5, $1 -= 2, $1 *= 7, $1 /= 2, $1 %= 4, $1, NF, $3 += 1, NF, $0`, "5 3 21 10 2 2 1 1 3 2  1"}, {`($0 += 12) . NF, $0 = "8 9", $0 -= 1, $0, $1, NF`, "121 8 9 7 7 7 1"}, {`x = y += 2, x += y -= 1, x, y`, "2 3 3 1"},
		// split.
		{`split("a,b,,c", a, /,/), a[1], a[2], a[3] . "-", a[4], 5 in a`, "4 a b - c 0"}, {`(a[9] = 1) + split("", a, /,/), 9 in a, 1 in a`, "1 0 0"}, {`split(123, a, /2/), a[1] + a[2], a[1] < 10, split("10 9", a, / /), a[1] < a[2], a[1] < a[2] . ""`, "2 4 1 2 0 1"}, {`split("07 7x", a, / /), a[1] == 7, a[2] == 7, a[1]`, "2 1 0 07"},
		{"NF, NR, getline, draw", "0 0 0 0"}, {"$0 . 1, $1 . 1, $50 . 1, $1000000000 . 1", "1 1 1 1"}, {`$"0x" . 1, $x . 1, $"" . 1`, "1 1 1"},
	} {
		run{source: "BEGIN { print " + c.expr + "; }", out: []string{c.want}}.hold(t)
	}
}

func TestFieldsOfSources(t *testing.T) {
	holdAll(t, []run{
		{source: "{ print $1, $2, $3, $NF, NF; }", records: []string{"a b c", "  x\ty ", "", "1"}, out: []string{"a b c c 3", "x y  y 2", "    0", "1   1 1"}},
		{source: "{ $3 = \"c\"; print NF, $0; $0 = \"p q\"; print $2, NF; }", records: []string{"a"}, out: []string{"3 a  c", "q 2"}},
		{source: "{ print ($1 < $2), $1 == $2, $1 == 9, $2 == \"10\"; }", records: []string{"9 10", "9 1x", "9 09", "x x", "9"}, out: []string{"1 0 1 1", "0 0 1 0", "0 1 1 0", "0 1 0 0", "0 0 1 0"}},
		{source: "{ x = $1; a[1] = $1; $2 = $1; print x == 7, a[1] == 7, $2 == 7, $1 . \"\" == 7; }", records: []string{"07"}, out: []string{"1 1 1 0"}},
		{source: "{ $$1 = \"x\"; print; }", records: []string{"2 3 4", "1 2"}, out: []string{"2 x 4", "x 2"}},
		{source: "{ $$$1 = 5; print; }", records: []string{"2 3 4", "1 2", "3 1 2"}, out: []string{"2 3 5", "5 2", "3 5 2"}},
		{source: "{ $(1 + 1) = $1 . $2; $NF += 1; print $0, $(NF - 1); }", records: []string{"a b 5", "x"}, out: []string{"a ab 6 ab", "x 1 x"}},
		{source: "{ $2 = \"\"; print $0 . \"|\", NF; $1 = \"a b\"; print NF, $1, $2 . \"|\"; $0 = $0; print NF, $2; }", records: []string{"x y z"}, out: []string{"x  z| 3", "3 a b |", "3 b"}},
		{source: "{ $0 = $2; print NF, $1; $1 += 5; print; }", records: []string{"a 7", "b"}, out: []string{"1 7", "12", "0 ", "5"}},
		{source: "{ print $1 += $2 += $3; print; }", records: []string{"1 2 3"}, out: []string{"6", "6 5 3"}},
		{source: "{ $1 = $1 = $2; $a[1] = $a[2] = 5; print; } BEGIN { a[1] = 1; a[2] = 3; }", records: []string{"x y"}, out: []string{"5 y 5"}},
		{source: "{ $50 = 1; print NF; $51 = 2; }", records: []string{""}, out: []string{"50"}, status: api.StField},
		{source: "{ $50 += 1; print NF; print $51 . \"-\"; $51 += 2; }", records: []string{""}, out: []string{"50", "-"}, status: api.StField},
		{source: "{ print $(0 - 1); }", records: []string{""}, status: api.StField}, {source: "{ print 1; $(0 - 1) = 1; }", records: []string{""}, out: []string{"1"}, status: api.StField}, {source: "{ $(0 - 1) += 1; }", records: []string{""}, status: api.StField},
		{source: "{ $2 = $1 . 1; }", records: []string{as(50)}, status: api.StLong}, {source: "{ $3 = $1; print; $1 = 1; print NF; }", records: []string{as(49)}, out: []string{as(49) + "  " + as(49), "3"}}, {source: "{ $4 = $1; }", records: []string{as(49)}, status: api.StLong},
	})
}

// What is worked out, in which order, and just once: m(p, q) prints p.
func TestTheOrderOfOperands(t *testing.T) {
	for _, c := range []struct{ text, want string }{
		{"x = m(1, 5) + m(2, 6) * m(3, 7);", "1 2 3"}, {"x = (m(1, 5) + m(2, 6)) . m(3, 7);", "1 2 3"}, {"x = m(1, 5) - m(2, 6) - m(3, 7);", "1 2 3"}, {"x = m(1, 5) < m(2, 6);", "1 2"}, {"x = m(1, 5) . m(2, 6) . m(3, 7) == m(4, 1);", "1 2 3 4"}, {"x = -m(1, 5) + !m(2, 6);", "1 2"},
		{"x = m(1, 0) || m(2, 0) || m(3, 1) || m(4, 1);", "1 2 3"}, {"x = m(1, 1) && m(2, \"a\") && m(3, 0) && m(4, 1);", "1 2 3"}, {"x = m(1, 0) && m(2, 1) || m(3, 0) && m(4, 1);", "1 3"}, {"x = m(1, 1) || m(2, 1) && m(3, 1);", "1"}, {"x = (m(1, 0) || m(2, 1)) && m(3, 1);", "1 2 3"}, {"x = m(1, \"0\") || m(2, 1);", "1"}, {"x = m(1, \"\") && m(2, 1);", "1"},
		{"x = m(1, 1) ? m(2, 1) : m(3, 1);", "1 2"}, {"x = m(1, 0) ? m(2, 1) : m(3, 1);", "1 3"}, {"x = m(1, 0) ? m(2, 1) : m(3, 0) ? m(4, 1) : m(5, 1);", "1 3 5"}, {"x = m(1, 1) ? m(2, 0) ? m(3, 1) : m(4, 1) : m(5, 1);", "1 2 4"},
		{"a[m(1, 5)] = m(2, 6);", "1 2"}, {"$m(1, 5) = m(2, 6);", "1 2"}, {"a[m(1, 5)] += m(2, 6);", "1 2"}, {"$m(1, 5) += m(2, 6);", "1 2"}, {"a[m(1, 1)] = a[m(2, 2)] = m(3, 3);", "1 2 3"}, {"$m(1, 1) = $m(2, 2) -= m(3, 3);", "1 2 3"}, {"a[a[m(1, 1)] = m(2, 2)] = m(3, 3);", "1 2 3"}, {"x = m(1, 1) in a in b;", "1"}, {"x = m(1, 1) ~ /1/ !~ /2/;", "1"}, {"delete a[m(1, 1)];", "1"}, {"print m(1, 1) in a;", "1 0"},
		{"x = substr(m(1, \"abc\"), m(2, 1), m(3, 2)) . index(m(4, 1), m(5, 2)) . swap(/a/, m(6, 1), m(7, 2)) . split(m(8, 1), a, /a/) . match(m(9, 1), /a/) . span(m(10, 1), /a/) . length(m(11, 1));", "1 2 3 4 5 6 7 8 9 10 11"},
		{"if (m(1, 0)) m(2, 0); else m(3, 0); while (m(4, 0)) m(5, 0);", "1 3 4"}, {"while ((x += 1) < 3 && m(1, 1)) m(2, 0);", "1 2 1 2"}, {"exit m(1, 1) + m(2, 2);", "1 2"},
	} {
		s := run{source: "BEGIN { " + c.text + " }" + marks, out: strings.Fields(c.want)}
		if strings.HasPrefix(c.text, "exit") {
			s.status, s.code = api.StExit, 3
		}
		s.hold(t)
	}
	holdAll(t, []run{
		// What stands there is taken ahead of what comes behind the sign.
		{source: "BEGIN { x = 5; x += x = 3; print x; x = 5; x -= (x = 3) + x; print x; a[1] = 5; a[1] += a[1] = 2; print a[1]; $1 = 5; $1 += $1 = 2; print; }", out: strings.Fields("8 -1 7 7")},
		{source: "BEGIN { x = 5; y = x + (x = 3) + x; print y; x = 1; y = x . (x = 2) . x; print y; x = 1; print x, x = 2, x; x = 1; print x < (x = 2); }", out: []string{"11", "122", "1 2 2", "1"}},
		// A key that e takes out comes in again; the key and the number are worked out first.
		{source: "function f(k) { delete a[k]; a[9]; return 5; } BEGIN { a[1] = 2; a[1] += f(1); for (k in a) print k, a[k] . \"-\"; }", out: []string{"9 -", "1 7-"}},
		{source: "function f() { k = 2; return 5; } BEGIN { k = 1; a[k] = f(); for (j in a) print j, a[j]; k = 1; $k = f(); print; }", out: []string{"1 5", "5"}},
		{source: "function f() { delete a; return 5; } BEGIN { a[1]; a[2] = f(); for (j in a) print j, a[j]; }", out: []string{"2 5"}},
		// A record that changes in between.
		{source: "{ print $1 . getline . $1; } ", records: []string{"a", "b", "c"}, out: []string{"a1b", "c0c"}},
		{source: "{ $2 = getline; print; $1 += getline; print; }", records: []string{"a", "b", "7", "8"}, out: []string{"b 1", "1", "8 0", "8 0"}},
		{source: "{ print NF, $0 = \"a b c\", NF, NR, getline, NR, NF; }", records: []string{"x", ""}, out: []string{"1 a b c 3 1 1 2 0"}},
		{source: "{ x = $0 = \"5 6\"; print x == \"5 6\", $1 == 5, x; }", records: []string{""}, out: []string{"1 1 5 6"}},
		// Texts and numbers stay what they are.
		{source: "{ x = $1; y = x; a[1] = y; z = f(a[1]); print z == 7, z . \"\" == 7, 1 ? z == 7 : 0, (1 ? z : 0) == 7, (0 || z) == 1; } function f(p) { return p; }", records: []string{"07"}, out: []string{"1 0 1 1 1"}},
		{source: "BEGIN { x = \"07\"; y = x; print y == 7, y + 0 == 7, (y = 7) == 7, y == \"7\", y == 7 . \"\"; }", out: []string{"0 1 1 1 1"}},
	})
}

// Faults in the midst of an expression: what was done ahead stays done, and
// nothing comes behind.
func TestFaultsOfSources(t *testing.T) {
	long := `"` + as(60) + `"`
	for _, c := range []struct {
		expr   string
		status int
	}{
		{"1 / 0", api.StZero}, {"1 % 0", api.StZero}, {"1 / x", api.StZero}, {"1 % \"a\"", api.StZero}, {"y /= 0", api.StZero}, {"y %= x", api.StZero}, {"b[1] /= 0", api.StZero}, {"$1 %= 0", api.StZero}, {"0 / 0", api.StZero},
		{"1000000000 + 1", api.StRange}, {"-1000000000 - 1", api.StRange}, {"1000000000 * 1000000000", api.StRange}, {"31623 * 31623", api.StRange}, {"y += 1000000000 + 1", api.StRange}, {"(y = 1000000000) + (y += 1)", api.StRange}, {"(y = -1000000000) + (y -= 1)", api.StRange}, {"(y = 100000) + (y *= y)", api.StRange}, {"\"99999999999\" + 1", api.StRange},
		{"$(0 - 1)", api.StField}, {"$\"-1\"", api.StField}, {"$51 = 1", api.StField}, {"$(-1) = 1", api.StField}, {"$1000000000 = 1", api.StField}, {"$(-1) += 1", api.StField}, {"$51 += 1", api.StField},
		{long + " . " + long, api.StLong}, {"swap(/a/, " + long + ", \"aa\")", api.StLong}, {"$2 = $1 = " + long, api.StLong}, {"swap(//, \"a\", " + long + ")", api.StLong},
		{"split(\"" + strings.Repeat(",", 30) + "\", b, /,/)", api.StFull}, {"c[0]", api.StFull}, {"c[0] = 1", api.StFull}, {"c[0] += 1", api.StFull}, {"f(1)", api.StDepth}, {"1 + f(1) * 2", api.StDepth},
	} {
		for _, text := range []string{"z = m(1, 1) + (" + c.expr + ") + m(2, 2);", "print m(1, 1), " + c.expr + ", m(2, 2);", "m(1, 1) . (" + c.expr + "); print 3;", "if (m(1, 1) && (" + c.expr + ")) print 3; else print 4;", "m(1, 1); while (" + c.expr + ") print 3;", "a[m(1, 1)] = (" + c.expr + ") + m(2, 2);", "m(1, 1); exit " + c.expr + ";", "m(m(1, 1), " + c.expr + ");"} {
			run{source: "BEGIN { while ((i += 1) <= 30) c[i]; " + text + " } function f(p) { f(p); }" + marks, out: []string{"1"}, status: c.status}.hold(t)
		}
	}
	holdAll(t, []run{
		// What lies on the stack does not matter, nor does the place.
		{source: "{ for (k in a) for (j in a) x = 1 + 2 * (3 - 1 / 0); } BEGIN { a[1]; }", records: []string{"a"}, status: api.StZero},
		{source: "END { f(5); } function f(n) { for (k in a) if (n) f(n - 1); else x = n / n; } BEGIN { a[1]; }", records: []string{"a"}, status: api.StZero},
		{source: "1 / 0 { print 1; }", records: []string{"a"}, status: api.StZero}, {source: "1 / 0 { print 1; }"},
		{source: "BEGIN { print 1, 2; x = 1 / 0; }", out: []string{"1 2"}, status: api.StZero},
		// Of two the one that comes first.
		{source: "BEGIN { x = 1 / 0 + 1000000000 * 2; }", status: api.StZero}, {source: "BEGIN { x = 1000000000 * 2 + 1 / 0; }", status: api.StRange}, {source: "BEGIN { $51 = 1 / 0; }", status: api.StZero}, {source: "BEGIN { $(-1) += 1 / 0; }", status: api.StField}, {source: "BEGIN { while ((i += 1) <= 30) c[i]; c[0] = 1 / 0; }", status: api.StZero}, {source: "BEGIN { while ((i += 1) <= 30) c[i]; c[0] += 1 / 0; }", status: api.StFull}, {source: fmt.Sprintf("BEGIN { x = %s . %s . 1 / 0; }", long, long), status: api.StLong},
	})
}

func TestDrawsOfSources(t *testing.T) {
	run{source: "BEGIN { while (d = draw) { s += d; n += 1; } print n, s; }", out: []string{"3 7"}}.hold(t, 3, -1, 5, 0, 7)
	run{source: "{ print draw, draw . draw; } END { print draw; }", records: []string{"a", "b"}, out: []string{"1 23", "4 00", "0"}}.hold(t, 1, 2, 3, 4)
	run{source: "draw { print NR; } function f() { return draw; } END { print f() - draw, draw; }", records: []string{"a", "b", "c"}, out: []string{"1", "3", "7 1000000000"}}.hold(t, 1, 0, -1, 9, 2, 1000000000)
}
