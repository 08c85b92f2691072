package values

import (
	"slices"
	"strings"
	"testing"
)

func TestReadTellsNumerals(t *testing.T) {
	for _, c := range []struct {
		text   string
		number int
	}{
		{"0", 0}, {" +7\n", 7}, {"-1000000000", -1000000000}, {strings.Repeat("0", 300) + "1000000000\t", 1000000000},
	} {
		if v := Read(c.text); v.kind != numeral || v.Number() != c.number || v.Text() != c.text {
			t.Errorf("Read(%q) = %+v", c.text, v)
		}
	}
	for _, text := range []string{"", "\n", "-", "7 7", "+ 7", "7-", "7\r", "1000000001", "-1000000001", strings.Repeat("9", 300)} {
		if v := Read(text); v != Text(text) {
			t.Errorf("Read(%q) = %+v", text, v)
		}
	}
}

func TestNumberKeepsItsLimits(t *testing.T) {
	for text, want := range map[string]int{
		strings.Repeat("9", 300): 1000000000, "-" + strings.Repeat("9", 300): -1000000000, "1000000001": 1000000000, "-1000000001x": -1000000000, "999999999": 999999999, "\t-12-": -12, "+-1": 0, "": 0,
	} {
		if got := Text(text).Number(); got != want {
			t.Errorf("the number of %q is %d, want %d", text, got, want)
		}
	}
}

func TestTheValueThatNobodyFilled(t *testing.T) {
	var v Value
	if v.Text() != "" || v.Number() != 0 || v.Holds() || Compare(v, Number(0)) != 0 || Compare(v, Text("")) != 0 || Compare(v, Text("0")) >= 0 {
		t.Errorf("it is not nothing: %+v", v)
	}
}

func TestTruth(t *testing.T) {
	if Truth(true) != Number(1) || Truth(false) != Number(0) {
		t.Errorf("%+v, %+v", Truth(true), Truth(false))
	}
}

func TestFields(t *testing.T) {
	for text, want := range map[string][]string{
		"": nil, " \t\n": nil, "a": {"a"}, "\n a\tb  \xff\x85 ": {"a", "b", "\xff\x85"}, "a\rb\u00a0c\u2003d": {"a\rb\u00a0c\u2003d"},
	} {
		if got := Fields(text); !slices.Equal(got, want) {
			t.Errorf("the fields of %q are %q, want %q", text, got, want)
		}
	}
}
