package glean_test

import (
	"strings"
	"sync"
	"testing"
	"time"

	"glean/api"
	"glean/glean"
)

// P14

func TestCompileRefusesLongSources(t *testing.T) {
	for _, source := range []string{strings.Repeat(" ", 1001), strings.Repeat("}", 1001), strings.Repeat("(", 1001), "BEGIN { next; }" + strings.Repeat("\n", 990), strings.Repeat("\"", 1001), "{" + strings.Repeat(";", 1000) + "}", strings.Repeat("{}", 5000000)} {
		wantSourceFault(t, source, 0, api.ErrLong)
	}
	for _, source := range []string{strings.Repeat(" ", 1000), "{" + strings.Repeat(";", 998) + "}", "#" + strings.Repeat("}", 999)} {
		wantRight(t, source)
	}
	wantSourceFault(t, strings.Repeat("}", 1000), 0, api.ErrSyntax)
	wantSourceFault(t, strings.Repeat(" ", 999)+"}", 999, api.ErrSyntax)
	wantSourceFault(t, "BEGIN{next;}"+strings.Repeat(" ", 988), 6, api.ErrPlace)
}

func TestTheExamplesOfSources(t *testing.T) {
	wantSourceFault(t, "{ print $1 }", 11, api.ErrSyntax)
	wantSourceFault(t, "BEGIN { x = 1; x[2] = 3; }", 15, api.ErrName)
	wantSourceFault(t, "function f(a) { return a; } { f(1, 2); }", 30, api.ErrCount)
	wantSourceFault(t, "BEGIN { next; }", 8, api.ErrPlace)
	wantSourceFault(t, "{ if (NF) /a/; }", 10, api.ErrSyntax)
	holdAll(t, []run{
		{source: "{ n[$1] += 1; } END { for (k in n) print k, n[k]; }", records: []string{"b x", "a", "b"}, out: []string{"b 2", "a 1"}},
		{source: "BEGIN { while (getline) s = s . $0; print s, NR; }", records: []string{"a", "b"}, out: []string{"ab 2"}},
		{source: "/x/, /y/ { print NR; }", records: []string{"x", "", "y", "xy", "z"}, out: []string{"1", "2", "3", "4"}},
		{source: "{ print ($1 < $2); }", records: []string{"9 10", "9 1x"}, out: []string{"1", "0"}},
		{source: "function f(n) { return n < 2 ? 1 : n * f(n - 1); } BEGIN { print f(12); print f(13); }", out: []string{"479001600"}, status: api.StRange},
		{source: "function f(n) { return n < 2 ? 1 : n * f(n - 1); } BEGIN { print f(21); print f(13); }", status: api.StDepth},
	})
}

// P1 and P2

// hardSources are sources that a compiler could lose its way or much time in.
func hardSources() []string {
	list := greatSources()
	for _, piece := range []string{"(", "{", "[", "$", "!", "-", "1+", "a[", "f(", "x=", "1?", "1?1:", "if(1)", "while(1)", "for(x in a)", "{if(1)", "1||", "1<", "1.", "x ", "\"\\", "/", "/\\", "#", "\"", "function f(", "function f(a,", "swap(//,", "1,", "print ", "\x00", "\xff", "é", "0", "9", "_", "&", "|", "=", "!~", "/=", "length("} {
		whole := strings.Repeat(piece, api.MaxSource)[:api.MaxSource]
		list = append(list, whole, "BEGIN{x="+whole[:990], "{"+whole[:995], whole[:500]+strings.Repeat(")", 500), whole[:500]+strings.Repeat("}", 500), "{"+whole[:400]+"1"+strings.Repeat(")", 400)+";}")
	}
	return list
}

func TestCompileEndsAndDoesNotPanic(t *testing.T) {
	t.Parallel()
	begin := time.Now()
	for _, source := range hardSources() {
		b, at, e := glean.Compile(source)
		if (b == "") != (e != api.OK) || at < 0 || at > len(source) || e == api.OK && at != 0 {
			t.Errorf("Compile(%.60q) = %d bytes, %d, %d", source, len(b), at, e)
		}
		switch e {
		case api.OK, api.ErrLong, api.ErrSyntax, api.ErrName, api.ErrCount, api.ErrPlace:
		default:
			t.Errorf("Compile(%.60q) = %d", source, e)
		}
	}
	if spent := time.Since(begin); spent > time.Minute {
		t.Errorf("the sources took %v", spent)
	}
}

func TestCompileHangsOnTheSourceAlone(t *testing.T) {
	t.Parallel()
	type answer struct {
		b  string
		at int
		e  api.Errno
	}
	ask := func(source string) answer {
		b, at, e := glean.Compile(source)
		return answer{b, at, e}
	}
	list := append(hardSources(), ruleSources()...)
	first := map[string]answer{}
	for _, source := range list {
		first[source] = ask(source)
	}
	var group sync.WaitGroup
	for start := range 8 {
		group.Go(func() {
			for i := range list {
				source := list[(i+start*37)%len(list)]
				if got := ask(strings.Clone(source)); got != first[source] {
					t.Errorf("Compile(%.60q) = %d, %d, at first %d, %d", source, got.at, got.e, first[source].at, first[source].e)
				}
			}
		})
	}
	group.Wait()
}

// What Compile makes is within all limits, and Pack and Unpack carry it.
func TestWhatCompileMakes(t *testing.T) {
	for _, source := range append(greatSources(), ruleSources()...) {
		b := wantRight(t, source)
		m, at, e := glean.Unpack(b)
		if e != api.OK || at != 0 {
			t.Errorf("Unpack of %.60q = %d, %d", source, at, e)
			continue
		}
		if again, e := glean.Pack(m); again != b || e != api.OK {
			t.Errorf("Pack of %.60q = %d", source, e)
		}
		for _, script := range [][]string{nil, make([]string, api.MaxRecords), {as(api.MaxText)}} {
			if x, e := glean.Open(b, script, make([]int, api.MaxDraws)); x == nil || e != api.OK {
				t.Errorf("Open of %.60q = %d", source, e)
			}
		}
	}
}
