package patterns

import (
	"slices"
	"strings"
	"testing"

	"glean/api"
)

func read(t testing.TB, text string) *Pattern {
	t.Helper()
	p, place, errno := Read(text)
	if p == nil || place != 0 || errno != api.OK {
		t.Fatalf("Read(%q) = %v, %d, %d", text, p, place, errno)
	}
	return p
}

func TestReadRefuses(t *testing.T) {
	for _, c := range []struct {
		text  string
		place int
		errno api.Errno
	}{
		{"a)", 1, api.ErrPattern}, {"(a", 2, api.ErrPattern}, {"[b-a]", 3, api.ErrPattern}, {strings.Repeat("a", 51), 0, api.ErrLong},
	} {
		if p, place, errno := Read(c.text); p != nil || place != c.place || errno != c.errno {
			t.Errorf("Read(%q) = %v, %d, %d, want nil, %d, %d", c.text, p, place, errno, c.place, c.errno)
		}
	}
}

func TestEnds(t *testing.T) {
	for _, c := range []struct {
		pattern, text string
		ends          []int
	}{
		{"", "ab", []int{0, 1, 2}},
		{"a|ab", "abab", []int{2, none, 4, none, none}},
		{"b*", "abba", []int{0, 3, 3, 3, 4}},
		{"^", "ab", []int{0, none, none}},
		{"$", "ab", []int{none, none, 2}},
		{"(^|b)a", "aba", []int{1, 3, none, none}},
		{"^$", "", []int{0}},
		{"(a$|b)+", "baba", []int{1, none, 4, 4, none}},
	} {
		if ends := read(t, c.pattern).ends(c.text); !slices.Equal(ends, c.ends) {
			t.Errorf("ends of %q in %q: %d, want %d", c.pattern, c.text, ends, c.ends)
		}
	}
}

func TestOnePatternServesManyTexts(t *testing.T) {
	p := read(t, "(^a|b)+$")
	for range 2 {
		for text, want := range map[string]int{"ab": 0, "aab": 2, "ba": -1, "": -1, "bb": 0} {
			if place, _ := p.Find(text, 0); place != want {
				t.Errorf("Find(%q) = %d, want %d", text, place, want)
			}
		}
	}
}

func BenchmarkFind(b *testing.B) {
	for _, text := range []string{"a", "[a-z]+ [a-z]*", "(" + strings.Repeat("a|", 22) + "a)*b", strings.Repeat("a*", 25)} {
		p := read(b, text)
		b.Run(text, func(b *testing.B) {
			in := strings.Repeat("a", api.MaxText)
			for b.Loop() {
				p.Find(in, 0)
			}
		})
	}
}
