package tokens

import (
	"slices"
	"strings"
	"testing"

	"glean/api"
)

func TestEveryKind(t *testing.T) {
	source := "BEGIN{x_1=007;#c\n\t\"a\\n\\t\\\"\\\\\"/2 }$ /=\\//!~"
	want := []Token{
		{Kind: "BEGIN", Place: 0}, {Kind: "{", Place: 5}, {Kind: Name, Place: 6, Text: "x_1"}, {Kind: "=", Place: 9}, {Kind: Numeral, Place: 10, Number: 7}, {Kind: ";", Place: 13},
		{Kind: Text, Place: 18, Text: "a\n\t\"\\"}, {Kind: "/", Place: 29}, {Kind: Numeral, Place: 30, Number: 2}, {Kind: "}", Place: 32}, {Kind: "$", Place: 33}, {Kind: Regex, Place: 35, Text: "=\\/"}, {Kind: "!~", Place: 40}, {Kind: End, Place: 42},
	}
	if got := Read(source); !slices.Equal(got, want) {
		t.Errorf("%v, want %v", got, want)
	}
}

func TestWordsAndSignsAreTheirOwnKinds(t *testing.T) {
	const all = "BEGIN END function if else while for in print delete next exit return break continue length substr index match span swap split getline draw NF NR " +
		"+ - * % . < <= == != > >= ~ !~ ! && || ? : = += -= *= %= ( ) [ ] / { } , ; $ 1 /="
	fields := strings.Fields(all)
	got := Read(all)
	if len(got) != len(fields)+1 {
		t.Fatalf("%d tokens of %d", len(got), len(fields))
	}
	for i, text := range fields {
		if text != "1" && string(got[i].Kind) != text {
			t.Errorf("%s is %v", text, got[i])
		}
	}
}

func TestTheLastTokenIsEndOrWrong(t *testing.T) {
	for _, c := range []struct {
		source string
		count  int
		last   Token
	}{
		{"", 1, Token{Kind: End}}, {" \t\n# a", 1, Token{Kind: End, Place: 6}}, {"x ", 2, Token{Kind: End, Place: 2}}, {"x @ y", 2, Token{Kind: Wrong, Place: 2}}, {"\"a", 1, Token{Kind: Wrong}}, {"x + \"a\\q\" y", 3, Token{Kind: Wrong, Place: 4}}, {"x + /(/ y", 3, Token{Kind: Wrong, Place: 4}}, {"x 1000000001 y", 2, Token{Kind: Wrong, Place: 2}}, {"x & y", 2, Token{Kind: Wrong, Place: 2}},
	} {
		got := Read(c.source)
		if len(got) != c.count || got[len(got)-1] != c.last {
			t.Errorf("%q: %v", c.source, got)
		}
		for _, one := range got[:len(got)-1] {
			if one.Kind == Wrong || one.Kind == End {
				t.Errorf("%q: %v", c.source, got)
			}
		}
	}
}

func TestLimits(t *testing.T) {
	for _, c := range []struct {
		source string
		kind   Kind
	}{
		{"1000000000", Numeral}, {"1000000001", Wrong}, {strings.Repeat("0", 5000) + "1000000000", Numeral}, {strings.Repeat("9", 5000), Wrong},
		{`"` + strings.Repeat("a", api.MaxText) + `"`, Text}, {`"` + strings.Repeat("a", api.MaxText+1) + `"`, Wrong}, {`"` + strings.Repeat(`\n`, api.MaxText) + `"`, Text}, {`"` + strings.Repeat(`\n`, api.MaxText+1) + `"`, Wrong},
		{"/" + strings.Repeat("a", api.MaxPattern) + "/", Regex}, {"/" + strings.Repeat("a", api.MaxPattern+1) + "/", Wrong},
	} {
		if got := Read(c.source)[0]; got.Kind != c.kind || got.Place != 0 {
			t.Errorf("%.40q is %v, want %s", c.source, got.Kind, c.kind)
		}
	}
}
