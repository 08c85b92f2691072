package glean_test

import (
	"fmt"
	"strings"
	"sync"
	"testing"

	"glean/api"
	"glean/glean"
)

// P1

// ladder is code in which a thousand ways, each with another cell that is a
// text, come to a stack of numbers, and from there to much code more.
func ladder(more string) string {
	const rungs = 1000
	var out strings.Builder
	out.WriteString("jump main body: " + more + " end ")
	for i := range rungs {
		fmt.Fprintf(&out, "rung%d: nf ", i)
	}
	out.WriteString("jump body main: ")
	for i := range rungs - 1 {
		fmt.Fprintf(&out, "str 0 nf jz rung%d drop nf ", i+1)
	}
	return out.String() + "nf jump body"
}

// backwards is code of n parts, each of which lies ahead of the one before it.
func backwards(n int, begin, end string) string {
	out := fmt.Sprintf("%s jump p%d p0: %s ", begin, n, end)
	for i := 1; i <= n; i++ {
		out += fmt.Sprintf("p%d: jump p%d ", i, i-1)
	}
	return out
}

// hardCode is code that a checker could lose its way or much time in.
func hardCode() []string {
	return []string{
		times(1024, "nf") + times(4500, "drop nil aclear 0") + "end",
		ladder(times(5000, "nil drop")),
		ladder(backwards(1500, "", "")),
		backwards(4500, times(1000, "nf"), "end"),
		carrier(1700, "nil", "tonum drop"),
		times(4000, "nf jz 0") + "jump 0",
		times(3000, "keys 0 each 0 drop drop") + "jump 0",
		"jump 0",
		times(1024, "nil") + times(2000, "call 6 "+times(7, "nil")) + "end",
		times(1000, "str 0") + "print 1000 " + times(1000, "str 0") + "print 1000 end",
	}
}

func TestCheckEndsAndDoesNotPanic(t *testing.T) {
	for _, text := range hardCode() {
		wantFlow(t, true, text)
	}
	wantFlow(t, true, ladder(times(3000, "nil drop")+"neg drop "+times(999, "tonum drop")))
	wantFlow(t, false, ladder(times(3000, "nil drop")+times(998, "drop")+"drop neg"))
	wantFlow(t, false, ladder(times(3000, "nil drop")+"drop neg"))
	for b := range 256 {
		code := strings.Repeat(string([]byte{byte(b)}), api.MaxCode)
		for _, m := range []api.Module{codeModule(0, code), codeModule(3, code)} {
			if f, at, e := glean.Check(packed(t, m)); at < 0 || at >= api.MaxCode || f != 0 && f != 3 || e == api.OK && f+at > 0 {
				t.Errorf("the byte %d alone: %d, %d, %d", b, f, at, e)
			}
		}
	}
	for _, b := range []string{"", strings.Repeat("\x00", 3000000), strings.Repeat("GL\x01", 10000)} {
		if f, _, e := glean.Check(b); f != 0 || e == api.OK {
			t.Errorf("%d bytes: %d, %d", len(b), f, e)
		}
	}
}

// P2

func TestCheckHangsOnTheBytesAlone(t *testing.T) {
	type answer struct {
		f, at int
		e     api.Errno
	}
	ask := func(b string) answer {
		f, at, e := glean.Check(b)
		return answer{f, at, e}
	}
	var texts []string
	var want []answer
	for _, text := range []string{"end", "drop end", "nil end", "jump 1 end", "nil str 9", "nil ret", "", carrier(20, "nil", "neg drop"), carrier(20, "nil", "tonum drop")} {
		b := packed(t, codeModule(0, asm(text)))
		texts = append(texts, b, b[1:])
		want = append(want, ask(b), ask(b[1:]))
	}
	var group sync.WaitGroup
	for range 8 {
		group.Go(func() {
			for i := len(texts) - 1; i >= 0; i-- {
				if got := ask(texts[i]); got != want[i] {
					t.Errorf("Check(%q): %v, then %v", texts[i], want[i], got)
				}
			}
		})
	}
	group.Wait()
}
