package glean_test

import (
	"math"
	"slices"
	"strings"
	"sync"
	"testing"
	"time"

	"glean/api"
	"glean/glean"
)

// P1

// hardPatterns are right and wrong ones that a matcher or a reader could lose its way in.
func hardPatterns() []string {
	return []string{
		"", "a", "(a*)*b", "((a+)+)+$", "(a|aa)+b", "(a?){1}", "()*", "(()*)*", "(^*$*)*", "(|)*+?a", "^*", "$+", "[^\x00-\xff]*",
		"a" + strings.Repeat("*", 49), "a" + strings.Repeat("+", 49), strings.Repeat("a*", 25), strings.Repeat("a?", 25), strings.Repeat("|", 50), strings.Repeat(".", 50),
		strings.Repeat("(", 16) + "a" + strings.Repeat(")*", 16), strings.Repeat("(a|", 12) + "a" + strings.Repeat(")", 12), "(" + strings.Repeat("a|", 23) + "a)*",
		"(", ")", "*", "[", "[^", "[a-", "\\", "[b-a]", "(a", strings.Repeat("(", 50), strings.Repeat("[", 50), strings.Repeat("\\", 49),
		strings.Repeat("a", 51), strings.Repeat("(", 100000), strings.Repeat("*", 100000),
	}
}

func hardTexts() []string {
	return []string{"", "a", "b", "\x00", "\xff\xfe", "日本", as(99) + "b", as(100), as(101), strings.Repeat("a", 3000000)}
}

func TestCallsEndAndDoNotPanic(t *testing.T) {
	begin := time.Now()
	for _, p := range hardPatterns() {
		if at, e := glean.Look(p); e == api.OK && at != 0 || e == api.ErrLong && at != 0 || at < 0 || at > len(p) {
			t.Errorf("Look(%.60q) = %d, %d", p, at, e)
		}
		for _, text := range hardTexts() {
			for _, from := range []int{math.MinInt, -1, 0, 1, 50, 100, 101, math.MaxInt} {
				if at, n, e := glean.Find(p, text, from); e != api.OK && (at != 0 || n != 0) {
					t.Errorf("Find(%.60q, %.20q, %d) = %d, %d, %d", p, text, from, at, n, e)
				}
			}
			for _, with := range hardTexts() {
				if out, e := glean.Swap(p, with, text); e != api.OK && out != "" {
					t.Errorf("Swap(%.60q, %.20q, %.20q) = %.20q, %d", p, with, text, out, e)
				}
			}
			if out, e := glean.Split(p, text); e != api.OK && out != nil {
				t.Errorf("Split(%.60q, %.20q) = %.20q, %d", p, text, out, e)
			}
		}
	}
	if spent := time.Since(begin); spent > time.Minute {
		t.Errorf("the calls took %v", spent)
	}
}

func TestTheErrorNamedFirstIsTheAnswer(t *testing.T) {
	long, none := as(101), "(("
	if _, _, e := glean.Find(none, long, -1); e != api.ErrLong {
		t.Errorf("Find: %d, want ErrLong", e)
	}
	if _, _, e := glean.Find(none, "a", -1); e != api.ErrPattern {
		t.Errorf("Find: %d, want ErrPattern", e)
	}
	if _, e := glean.Swap(none, "a", long); e != api.ErrLong {
		t.Errorf("Swap: %d, want ErrLong", e)
	}
	if _, e := glean.Split(none, long); e != api.ErrLong {
		t.Errorf("Split: %d, want ErrLong", e)
	}
}

// P2

func TestListsAreNewMemory(t *testing.T) {
	want := []string{"a", "b", "", "c"}
	first, _ := glean.Split(",", "a,b,,c")
	second, _ := glean.Split(",", "a,b,,c")
	spare := first[:cap(first)]
	for i := range spare {
		spare[i] = "written"
	}
	_ = append(first[:1], "x", "y", "z", "w")
	if !slices.Equal(second, want) {
		t.Errorf("an earlier answer hangs on a later one: %q", second)
	}
	if third, _ := glean.Split(",", "a,b,,c"); !slices.Equal(third, want) {
		t.Errorf("a later answer hangs on an earlier one: %q", third)
	}
}

// answers is what the calls say of a pattern and a text.
type answers struct {
	look, at, length int
	swapped, pieces  string
}

func ask(p, text string) (out answers) {
	out.look, _ = glean.Look(p)
	out.at, out.length, _ = glean.Find(p, text, 0)
	out.swapped, _ = glean.Swap(p, "-", text)
	pieces, _ := glean.Split(p, text)
	out.pieces = strings.Join(pieces, "\x00")
	return out
}

func TestAnswersHangOnTheArgumentsAlone(t *testing.T) {
	patterns := []string{"a*", "(b|ab)+$", "[^a]", "(", "", "^a|b$"}
	texts := []string{"", "aab", "bbab", as(100), as(101)}
	var want []answers
	for _, p := range patterns {
		for _, text := range texts {
			want = append(want, ask(p, text))
		}
	}
	var group sync.WaitGroup
	for range 8 {
		group.Add(1)
		go func() {
			defer group.Done()
			for k := len(want) - 1; k >= 0; k-- {
				p, text := patterns[k/len(texts)], texts[k%len(texts)]
				if got := ask(p, text); got != want[k] {
					t.Errorf("%q and %.20q: %v, then %v", p, text, want[k], got)
				}
			}
		}()
	}
	group.Wait()
}
