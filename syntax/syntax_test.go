package syntax

import (
	"strconv"
	"strings"
	"testing"

	"glean/api"
	"glean/tokens"
)

// shape writes an expression with parentheses around all that has parts.
func shape(e *Expr) string {
	name := e.Name + e.Text
	if e.Kind == tokens.Numeral {
		name = strconv.Itoa(e.Number)
	}
	if len(e.Parts) == 0 && e.Kind != "(" {
		return name
	}
	list := []string{string(e.Kind)}
	if name != "" {
		list = append(list, name)
	}
	for _, p := range e.Parts {
		list = append(list, shape(p))
	}
	return "(" + strings.Join(list, " ") + ")"
}

func TestShapes(t *testing.T) {
	for _, c := range []struct{ source, want string }{
		{"1 + 2 * 3 - 4", "(- (+ 1 (* 2 3)) 4)"}, {"1 . 2 + 3 < 4", "(< (. 1 (+ 2 3)) 4)"}, {"-x * !y", "(* (- x) (! y))"}, {"x - -y", "(- x (- y))"}, {"x = y += z", "(= x (+= y z))"}, {"x ? y : z ? u : v", "(? x y (? z u v))"}, {"x ? y = 1 : z = 2", "(? x (= y 1) (= z 2))"}, {"x || y && z || w", "(|| (|| x (&& y z)) w)"}, {"x in a in b", "(in b (in a x))"}, {"x ~ /p/ !~ /q/ in a", "(in a (!~ q (~ p x)))"},
		{"$x[1] . $$y", "(. ($ ([ x 1)) ($ ($ y)))"}, {"f(1, g(), (2))", "(( f 1 (( g) 2)"}, {"a[a[1]] %= 2", "(%= ([ a ([ a 1)) 2)"}, {"substr(x, 1) . substr(x, 1, 2)", "(. (substr x 1) (substr x 1 2))"}, {"swap(/p/, x, y)", "(swap p x y)"}, {"split(x, a, /p/)", "(split ap x)"}, {"((x))", "x"}, {"index(x, y) + match(x, /p/) + span(y, /q/) + length(z)", "(+ (+ (+ (index x y) (match p x)) (span q y)) (length z))"},
	} {
		p, place, errno := Read("function f(p, q, r) { } function g() { } BEGIN { " + c.source + "; }")
		if errno != api.OK || place != 0 {
			t.Errorf("%s: %d, %d", c.source, place, errno)
			continue
		}
		if got := shape(p.Begins[0].Body[0].Exprs[0]); got != c.want {
			t.Errorf("%s is %s, want %s", c.source, got, c.want)
		}
	}
}

func TestItems(t *testing.T) {
	p, _, errno := Read("BEGIN { 1; } x { } END { } function f(a, b) { } { } BEGIN { } x, y { } END { } END { } function g() { }")
	if errno != api.OK || len(p.Begins) != 2 || len(p.Ends) != 3 || len(p.Rules) != 3 || len(p.Functions) != 2 {
		t.Fatalf("%d, %+v", errno, p)
	}
	for i, r := range p.Rules {
		if len(r.Pattern) != []int{1, 0, 2}[i] || r.Block == nil {
			t.Errorf("rule %d: %+v", i, r)
		}
	}
	if f := p.Functions[0]; f.Name != "f" || strings.Join(f.Params, " ") != "a b" {
		t.Errorf("%+v", f)
	}
}

func TestFaultsLeaveNoProgram(t *testing.T) {
	for _, c := range []struct {
		source string
		place  int
		errno  api.Errno
	}{
		{"BEGIN { x = 1 }", 14, api.ErrSyntax}, {"BEGIN { x", 9, api.ErrSyntax}, {"{ f(); }", 2, api.ErrName}, {"function f() { } { f(1); }", 19, api.ErrCount}, {"{ break; }", 2, api.ErrPlace},
	} {
		p, place, errno := Read(c.source)
		if place != c.place || errno != c.errno || p.Begins != nil || p.Rules != nil || p.Functions != nil {
			t.Errorf("%s: %d, %d, %+v", c.source, place, errno, p)
		}
	}
}
