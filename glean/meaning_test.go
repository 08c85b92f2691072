package glean_test

// These tests hold the calls against the document's own words: its grammar,
// gone through with all ends that a rule may have, and its "matches from i to
// j", worked out as a relation between places.

import (
	"math/rand/v2"
	"slices"
	"strings"
	"testing"

	"glean/api"
	"glean/glean"
)

// grammar is a text; its methods tell where a rule that begins at a place may end.
type grammar string

func (g grammar) is(i int, b byte) bool { return i < len(g) && g[i] == b }

// closure adds all that step reaches from the places.
func closure(places []int, step func(int) []int) []int {
	for k := 0; k < len(places); k++ {
		for _, e := range step(places[k]) {
			if !slices.Contains(places, e) {
				places = append(places, e)
			}
		}
	}
	return places
}

func (g grammar) alternatives(i int) []int {
	return closure(g.sequence(i), func(e int) []int {
		if g.is(e, '|') {
			return g.sequence(e + 1)
		}
		return nil
	})
}

func (g grammar) sequence(i int) []int { return closure([]int{i}, g.part) }

func (g grammar) part(i int) []int {
	return closure(g.atom(i), func(e int) []int {
		if g.is(e, '*') || g.is(e, '+') || g.is(e, '?') {
			return []int{e + 1}
		}
		return nil
	})
}

func (g grammar) atom(i int) []int {
	switch {
	case i >= len(g):
		return nil
	case g[i] == '(':
		return g.closed(g.alternatives(i+1), ')')
	case g[i] == '[':
		return g.class(i + 1)
	case g[i] == '\\' && i+1 < len(g):
		return []int{i + 2}
	case strings.IndexByte(`)*+?|\`, g[i]) < 0:
		return []int{i + 1}
	}
	return nil
}

func (g grammar) closed(ends []int, by byte) (out []int) {
	for _, e := range ends {
		if g.is(e, by) {
			out = append(out, e+1)
		}
	}
	return out
}

func (g grammar) class(i int) []int {
	if g.is(i, '^') {
		i++
	}
	return g.closed(closure(g.item(i), g.item), ']')
}

func (g grammar) item(i int) []int {
	c, e := g.bound(i)
	if e < 0 || !g.is(e, '-') || g.is(e+1, ']') {
		if e < 0 {
			return nil
		}
		return []int{e}
	}
	d, e := g.bound(e + 1)
	if e < 0 || d < c {
		return nil
	}
	return []int{e}
}

func (g grammar) bound(i int) (byte, int) {
	switch {
	case i >= len(g) || g[i] == ']':
		return 0, -1
	case g[i] != '\\':
		return g[i], i + 1
	case i+1 < len(g):
		return g[i+1], i + 2
	}
	return 0, -1
}

func isPattern(s string) bool { return slices.Contains(grammar(s).alternatives(0), len(s)) }

// begins tells whether some pattern begins with s. What is open in a class or
// behind a \ is shut by "\xff]" if by anything, and groups by as many ).
func begins(s string) bool {
	for k := 0; k <= strings.Count(s, "("); k++ {
		shut := strings.Repeat(")", k)
		if isPattern(s+shut) || isPattern(s+"\xff]"+shut) {
			return true
		}
	}
	return false
}

func TestLookByTheGrammar(t *testing.T) {
	t.Parallel()
	var grow func(s string, left int)
	grow = func(s string, left int) {
		at, e := glean.Look(s)
		if isPattern(s) != (e == api.OK) || e == api.OK && at != 0 || e != api.OK && (at != len(s) || e != api.ErrPattern) {
			t.Fatalf("Look(%q) = %d, %d, and pattern is %v", s, at, e, isPattern(s))
		}
		for _, b := range []byte("ab()[]*|\\^-") {
			longer := s + string(b)
			if !begins(longer) {
				for _, more := range []string{"", "a", "]", ")", "\\"} {
					if at, e := glean.Look(longer + more); at != len(s) || e != api.ErrPattern {
						t.Fatalf("Look(%q) = %d, %d, want %d, ErrPattern", longer+more, at, e, len(s))
					}
				}
			} else if left > 0 {
				grow(longer, left-1)
			}
		}
	}
	grow("", 5)
}

// tree is a pattern as it was put together.
type tree struct {
	form  byte // 'b' bytes, '^', '$', 's' sequence, '|', '*', '+', '?'
	text  string
	takes func(byte) bool
	kids  []tree
}

func byteTree(text string, takes func(byte) bool) tree {
	return tree{form: 'b', text: text, takes: takes}
}

func leaf(r *rand.Rand) tree {
	switch r.IntN(10) {
	case 0:
		return byteTree(".", func(byte) bool { return true })
	case 1:
		return byteTree("[^a]", func(b byte) bool { return b != 'a' })
	case 2:
		return byteTree("[b-d]", func(b byte) bool { return 'b' <= b && b <= 'd' })
	case 3:
		return tree{form: '^', text: "^"}
	case 4:
		return tree{form: '$', text: "$"}
	case 5:
		return byteTree("\\b", func(b byte) bool { return b == 'b' })
	}
	c := "abc"[r.IntN(3)]
	return byteTree(string(c), func(b byte) bool { return b == c })
}

func randomTree(r *rand.Rand, depth int) tree {
	if depth == 0 {
		return leaf(r)
	}
	form := "bss||*+?"[r.IntN(8)]
	switch form {
	case 'b':
		return leaf(r)
	case '*', '+', '?':
		return tree{form: form, kids: []tree{randomTree(r, depth-1)}}
	}
	kids := make([]tree, r.IntN(4))
	if form == '|' {
		kids = make([]tree, 1+r.IntN(3))
	}
	for i := range kids {
		kids[i] = randomTree(r, depth-1)
	}
	return tree{form: form, kids: kids}
}

func (n tree) write() string {
	parts := make([]string, len(n.kids))
	for i, kid := range n.kids {
		parts[i] = kid.write()
		isAlone := kid.form != 's' && kid.form != '|'
		if n.form == 's' && kid.form == '|' || strings.IndexByte("*+?", n.form) >= 0 && !isAlone {
			parts[i] = "(" + parts[i] + ")"
		}
	}
	switch n.form {
	case 's':
		return strings.Join(parts, "")
	case '|':
		return strings.Join(parts, "|")
	case '*', '+', '?':
		return parts[0] + string(n.form)
	}
	return n.text
}

// relation says from which places to which places something matches.
type relation [][]bool

func noRelation(n int) relation {
	out := make(relation, n+1)
	for i := range out {
		out[i] = make([]bool, n+1)
	}
	return out
}

func never(n int) relation {
	out := noRelation(n)
	for i := range out {
		out[i][i] = true
	}
	return out
}

func (a relation) or(b relation) relation {
	out := noRelation(len(a) - 1)
	for i := range a {
		for j := range a {
			out[i][j] = a[i][j] || b[i][j]
		}
	}
	return out
}

func (a relation) then(b relation) relation {
	out := noRelation(len(a) - 1)
	for i := range a {
		for k := range a {
			for j := range a {
				out[i][j] = out[i][j] || a[i][k] && b[k][j]
			}
		}
	}
	return out
}

// more is a once or more: with every round one time more is in it, and more
// than one a place are never needed.
func (a relation) more() relation {
	out := a
	for range a {
		out = a.or(a.then(out))
	}
	return out
}

func (n tree) matches(text string) relation {
	out := noRelation(len(text))
	switch n.form {
	case 'b':
		for i := range len(text) {
			out[i][i+1] = n.takes(text[i])
		}
	case '^':
		out[0][0] = true
	case '$':
		out[len(text)][len(text)] = true
	case 's':
		out = never(len(text))
		for _, kid := range n.kids {
			out = out.then(kid.matches(text))
		}
	case '|':
		for _, kid := range n.kids {
			out = out.or(kid.matches(text))
		}
	case '*':
		out = n.kids[0].matches(text).more().or(never(len(text)))
	case '+':
		out = n.kids[0].matches(text).more()
	case '?':
		out = n.kids[0].matches(text).or(never(len(text)))
	}
	return out
}

// matchAt is where the match at a place ends, or -1.
func (a relation) matchAt(i int) int {
	for j := len(a) - 1; j >= i; j-- {
		if a[i][j] {
			return j
		}
	}
	return -1
}

func (a relation) find(from int) (int, int) {
	for i := from; i < len(a); i++ {
		if j := a.matchAt(i); j >= 0 {
			return i, j - i
		}
	}
	return -1, 0
}

func (a relation) swap(with, text string) string {
	out, swappedEnd := "", -1
	for i := 0; i <= len(text); {
		j := a.matchAt(i)
		if j > i {
			out += with
			i, swappedEnd = j, j
			continue
		}
		if j == i && swappedEnd != i {
			out += with
		}
		if i < len(text) {
			out += text[i : i+1]
		}
		i++
	}
	return out
}

func (a relation) split(text string) []string {
	if text == "" {
		return nil
	}
	out := []string{""}
	for i := 0; i < len(text); {
		if j := a.matchAt(i); j > i {
			out = append(out, "")
			i = j
			continue
		}
		out[len(out)-1] += text[i : i+1]
		i++
	}
	return out
}

func randomText(r *rand.Rand) string {
	b := make([]byte, r.IntN(8))
	for i := range b {
		b[i] = "aabbcd"[r.IntN(6)]
	}
	return string(b)
}

func TestCallsByTheRelation(t *testing.T) {
	r := rand.New(rand.NewPCG(1, 2))
	for range 20000 {
		n := randomTree(r, 1+r.IntN(4))
		p := n.write()
		if len(p) > api.MaxPattern {
			continue
		}
		text := randomText(r)
		rel := n.matches(text)
		for from := 0; from <= len(text); from++ {
			wantAt, wantN := rel.find(from)
			if at, length, e := glean.Find(p, text, from); at != wantAt || length != wantN || e != api.OK {
				t.Fatalf("Find(%q, %q, %d) = %d, %d, %d, want %d, %d", p, text, from, at, length, e, wantAt, wantN)
			}
		}
		if out, e := glean.Swap(p, "-", text); out != rel.swap("-", text) || e != api.OK {
			t.Fatalf("Swap(%q, -, %q) = %q, %d, want %q", p, text, out, e, rel.swap("-", text))
		}
		if out, e := glean.Split(p, text); !slices.Equal(out, rel.split(text)) || e != api.OK {
			t.Fatalf("Split(%q, %q) = %q, %d, want %q", p, text, out, e, rel.split(text))
		}
	}
}
