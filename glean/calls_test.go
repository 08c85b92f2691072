package glean_test

import (
	"math"
	"slices"
	"strings"
	"testing"

	"glean/api"
	"glean/glean"
)

func as(n int) string { return strings.Repeat("a", n) }

// P3

func TestLookTakesPatterns(t *testing.T) {
	for _, p := range []string{
		"", "|", "||", "()", "(|)", "(()|)", "a(b|c)*", "a||b", "a**?+", "()*", "^*$+", "a^b$c",
		"]", "{}-,&/\"", " \t\n", "\x00\xff\x80", "\\(\\)\\[\\*\\+\\?\\|\\\\\\^\\$\\.\\a\\\x00",
		"[a]", "[^a]", "[^^]", "[a^]", "[[]", "[(*]", "[a-]", "[-a]", "[-]", "[--]", "[---]", "[--a]", "[+--]",
		"[a-b-c]", "[a-a]", "[a-z0-9_]", "[\\]]", "[^\\]]", "[\\\\]", "[\\b-\\c]", "[a\\-c]", "[\\--a]", "[\\^]", "[^-a]",
		"[a-]b]", "[\x00-\xff]", "[.]", "[$]+",
		as(api.MaxPattern), strings.Repeat("(", 25) + strings.Repeat(")", 25), "a" + strings.Repeat("*", 49),
	} {
		if at, e := glean.Look(p); at != 0 || e != api.OK {
			t.Errorf("Look(%q) = %d, %d, want 0, OK", p, at, e)
		}
	}
}

func TestLookTellsTheFirstFault(t *testing.T) {
	for _, c := range []struct {
		p  string
		at int
	}{
		{"*", 0}, {"+a", 0}, {"?", 0}, {")", 0}, {"a)", 1}, {"()())", 4}, {"a|*", 2}, {"a**|+", 4}, {"(*)", 1}, {"(a|?)", 3},
		{"(", 1}, {"(a", 2}, {"((a)", 4}, {"(a|", 3}, {"\\", 1}, {"a\\", 2}, {"(\\)", 3}, {strings.Repeat("(", 50), 50},
		{"[", 1}, {"[]", 1}, {"[]a]", 1}, {"[^", 2}, {"[^]", 2}, {"[^]a]", 2}, {"[a", 2}, {"[a-", 3}, {"[a-b", 4}, {"[a-b-", 5}, {"[\\", 2}, {"[\\]", 3}, {"[a-\\", 4}, {"[^^", 3},
		{"[b-a]", 3}, {"[b-\\a]", 4}, {"[a--]", 3}, {"[a-\\]]", 4}, {"[xb-a", 4}, {"[^b-a]", 4}, {"[\\b-a]", 4}, {"[\xff-\x00]", 3},
		{"[b-a]*)", 3}, {"a)(*", 1}, {"[a-]]*)", 6},
	} {
		if at, e := glean.Look(c.p); at != c.at || e != api.ErrPattern {
			t.Errorf("Look(%q) = %d, %d, want %d, ErrPattern", c.p, at, e, c.at)
		}
	}
}

func TestLookRefusesLongTexts(t *testing.T) {
	for _, p := range []string{as(51), strings.Repeat("*", 51), strings.Repeat("(", 51), strings.Repeat(")", 5000000)} {
		if at, e := glean.Look(p); at != 0 || e != api.ErrLong {
			t.Errorf("Look of %d bytes = %d, %d, want 0, ErrLong", len(p), at, e)
		}
	}
}

// P4

func TestFind(t *testing.T) {
	for _, c := range []struct {
		p, text string
		from    int
		at, n   int
	}{
		{"a|ab", "xab", 0, 1, 2}, {"ab|a", "xab", 0, 1, 2}, {"b*", "abb", 0, 0, 0}, {"b*", "abb", 1, 1, 2}, {"b*", "abb", 3, 3, 0},
		{"", "", 0, 0, 0}, {"", "abc", 2, 2, 0}, {"", "abc", 3, 3, 0}, {"a", "", 0, -1, 0}, {"a", "a", 1, -1, 0}, {"c", "ab", 0, -1, 0},
		{"^a", "aa", 0, 0, 1}, {"^a", "aa", 1, -1, 0}, {"a^", "aa", 0, -1, 0}, {"^", "ab", 1, -1, 0}, {"^$", "", 0, 0, 0}, {"^$", "a", 0, -1, 0}, {"$^", "", 0, 0, 0},
		{"$", "ab", 0, 2, 0}, {"a$", "aba", 0, 2, 1}, {"$a", "aa", 0, -1, 0}, {"x*$", "axx", 0, 1, 2}, {"(^a|b)*", "abab", 0, 0, 2}, {"(^|a)b", "ab", 0, 0, 2}, {"(a|^)*b", "aab", 0, 0, 3}, {"(a$)*", "aa", 0, 0, 0}, {"(a$)*", "aa", 1, 1, 1}, {"(a$)+", "aa", 0, 1, 1},
		{"(^*a)*", "aa", 0, 0, 2}, {"(^a)*", "aa", 0, 0, 1}, {"(a($)?)*", "aaa", 0, 0, 3}, {"a(^)?b", "ab", 0, 0, 2}, {"(^)+a", "ba", 0, -1, 0},
		{"(a|ab)(c|bcd)", "abcd", 0, 0, 4}, {"(a|ab)(c|bcd)?", "abce", 0, 0, 3}, {"(|a)+", "aa", 0, 0, 2}, {"(a|aa)?b", "aab", 0, 0, 3}, {"(ab)*a", "ababab", 0, 0, 5}, {"a+b?", "caab", 0, 1, 3}, {"a?", "b", 0, 0, 0},
		{"(a*)*", "b", 0, 0, 0}, {"(a*)+", "aab", 0, 0, 2}, {"(a+)?+", "aab", 1, 1, 1}, {"(a?b?)*c", "abbac", 0, 0, 5},
		{".", "\n\x00\xff", 0, 0, 1}, {".+", "\n\x00\xff", 0, 0, 3}, {"\\.", "a.", 0, 1, 1}, {"\\n", "\nn", 0, 1, 1}, {"\\\\", "a\\", 0, 1, 1}, {"\x00", "a\x00", 0, 1, 1},
		{"[b-d]", "aecb", 0, 2, 1}, {"[^a-c]+", "abxyc", 0, 2, 2}, {"[^a]", "\n", 0, 0, 1}, {"[^\x00-\xff]", "abc", 0, -1, 0}, {"[-a]", "b-", 0, 1, 1}, {"[a-]", "b-", 0, 1, 1}, {"[a-b-c]+", "-cab", 0, 0, 4}, {"[a^]", "^", 0, 0, 1}, {"[^^]", "^a", 0, 1, 1}, {"[\\]]", "\\]", 0, 1, 1}, {"[\\\\]", "]\\", 0, 1, 1}, {"[.]", "a.", 0, 1, 1}, {"[\\^-\\a]", "]b^", 0, 2, 1}, {"[\x80-\xff]", "\x7f\x80", 0, 1, 1}, {"[a-]b]", "a-b]", 0, 1, 3},
		{"a*", as(100), 0, 0, 100}, {"a*", as(100), 100, 100, 0}, {as(50), as(100), 50, 50, 50}, {as(50), as(100), 51, -1, 0},
	} {
		if at, n, e := glean.Find(c.p, c.text, c.from); at != c.at || n != c.n || e != api.OK {
			t.Errorf("Find(%q, %q, %d) = %d, %d, %d, want %d, %d, OK", c.p, c.text, c.from, at, n, e, c.at, c.n)
		}
	}
}

func TestFindRefuses(t *testing.T) {
	for _, c := range []struct {
		p, text string
		from    int
		e       api.Errno
	}{
		{as(51), "a", 0, api.ErrLong}, {"a", as(101), 0, api.ErrLong}, {"*", as(101), -1, api.ErrLong}, {strings.Repeat("*", 51), "", -1, api.ErrLong}, {"a", as(101), 200, api.ErrLong},
		{"*", "a", 0, api.ErrPattern}, {"a)", "a", 9, api.ErrPattern}, {"(", "", -1, api.ErrPattern},
		{"a", "a", 2, api.ErrArg}, {"a", "a", -1, api.ErrArg}, {"a", "", 1, api.ErrArg}, {"a", "a", math.MinInt, api.ErrArg}, {"a", "a", math.MaxInt, api.ErrArg}, {"a", as(100), 101, api.ErrArg},
	} {
		if at, n, e := glean.Find(c.p, c.text, c.from); at != 0 || n != 0 || e != c.e {
			t.Errorf("Find(%.20q, %.20q, %d) = %d, %d, %d, want 0, 0, %d", c.p, c.text, c.from, at, n, e, c.e)
		}
	}
}

// P5

func TestSwap(t *testing.T) {
	for _, c := range []struct{ p, with, text, out string }{
		{"b*", "-", "abba", "-a-a-"}, {"b*", "-", "abb", "-a-"}, {"b*", "-", "bb", "-"}, {"b*", "-", "", "-"}, {"b*", "-", "bab", "-a-"}, {"b*", "-", "baab", "-a-a-"},
		{"", "x", "ab", "xaxbx"}, {"", "", "ab", "ab"}, {"", "x", "", "x"}, {"a", "x", "", ""},
		{"^a", "", "aab", "ab"}, {"^", "x", "aa", "xaa"}, {"$", "!", "hi", "hi!"}, {"^|$", "x", "a", "xax"}, {"a|$", "x", "ba", "bx"}, {"a|$", "x", "ab", "xbx"},
		{"a", "&", "banana", "b&n&n&"}, {"a", "\\0", "a", "\\0"}, {"aa", "b", "aaa", "ba"}, {"a|ab", "-", "abab", "--"}, {"a", "aa", "aa", "aaaa"}, {"c", "x", "ab", "ab"}, {".", "", "abc", ""},
		{"(a|)", "-", "ab", "-b-"}, {"a?", "-", "aab", "--b-"}, {"(ab)?", "-", "abab", "--"},
		{"a", strings.Repeat("b", 100), as(100), strings.Repeat("b", 10000)}, {"", as(100), as(100), as(10200)},
	} {
		if out, e := glean.Swap(c.p, c.with, c.text); out != c.out || e != api.OK {
			t.Errorf("Swap(%q, %.20q, %.20q) = %.40q, %d, want %.40q, OK", c.p, c.with, c.text, out, e, c.out)
		}
	}
}

func TestSwapRefuses(t *testing.T) {
	for _, c := range []struct {
		p, with, text string
		e             api.Errno
	}{
		{as(51), "", "", api.ErrLong}, {"a", as(101), "", api.ErrLong}, {"a", "", as(101), api.ErrLong}, {"*", as(101), "", api.ErrLong}, {"*", "", as(101), api.ErrLong}, {strings.Repeat("*", 51), "", "", api.ErrLong},
		{"[", "", "", api.ErrPattern}, {"a)", "b", "a", api.ErrPattern},
	} {
		if out, e := glean.Swap(c.p, c.with, c.text); out != "" || e != c.e {
			t.Errorf("Swap(%.20q, %.20q, %.20q) = %q, %d, want \"\", %d", c.p, c.with, c.text, out, e, c.e)
		}
	}
}

// P6

func TestSplit(t *testing.T) {
	for _, c := range []struct {
		p, text string
		out     []string
	}{
		{",", "a,,b,", []string{"a", "", "b", ""}}, {",", ",a", []string{"", "a"}}, {",", ",", []string{"", ""}}, {",", ",,", []string{"", "", ""}}, {",", "a", []string{"a"}},
		{",", "", nil}, {"", "", nil}, {"x*", "", nil}, {"$", "", nil},
		{"x*", "axxb", []string{"a", "b"}}, {"", "ab", []string{"ab"}}, {"^", "ab", []string{"ab"}}, {"$", "ab", []string{"ab"}}, {"x*", "xaxx", []string{"", "a", ""}},
		{" +", " a  b", []string{"", "a", "b"}}, {"^a", "aa", []string{"", "a"}}, {"a$", "aa", []string{"a", ""}}, {"aa", "aaa", []string{"", "a"}}, {"a|ab", "xaby", []string{"x", "y"}}, {".", "ab", []string{"", "", ""}}, {".*", "ab", []string{"", ""}},
		{"[,;]", "a,b;c", []string{"a", "b", "c"}}, {"b", "\x00b\xff", []string{"\x00", "\xff"}},
		{"a", as(100), make([]string, 101)},
	} {
		if out, e := glean.Split(c.p, c.text); !slices.Equal(out, c.out) || e != api.OK {
			t.Errorf("Split(%q, %q) = %q, %d, want %q, OK", c.p, c.text, out, e, c.out)
		}
	}
}

func TestSplitRefuses(t *testing.T) {
	for _, c := range []struct {
		p, text string
		e       api.Errno
	}{
		{as(51), "", api.ErrLong}, {"a", as(101), api.ErrLong}, {"*", as(101), api.ErrLong}, {strings.Repeat("*", 51), "", api.ErrLong},
		{"*", "a", api.ErrPattern}, {"(", "", api.ErrPattern},
	} {
		if out, e := glean.Split(c.p, c.text); out != nil || e != c.e {
			t.Errorf("Split(%.20q, %.20q) = %q, %d, want nil, %d", c.p, c.text, out, e, c.e)
		}
	}
}
