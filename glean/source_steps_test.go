package glean_test

import (
	"fmt"
	"slices"
	"strings"
	"testing"

	"glean/api"
	"glean/glean"
)

// filled is a source with as many pieces as there is room for; %d in one is its
// number.
func filled(begin, piece, end string) string {
	out := begin
	for i := 0; ; i++ {
		next := piece
		if strings.Contains(piece, "%d") {
			next = fmt.Sprintf(piece, i)
		}
		if len(out)+len(next)+len(end) > api.MaxSource {
			return out + end
		}
		out += next
	}
}

// nested is a source with pieces around each other.
func nested(begin, open, inner, shut, end string) string {
	times := (api.MaxSource - len(begin+inner+end)) / len(open+shut)
	return begin + strings.Repeat(open, times) + inner + strings.Repeat(shut, times) + end
}

// greatSources are sources with as much of something as fits in.
func greatSources() []string {
	eight := " function f(a,b,c,d,e,g,h,i){}"
	return []string{
		strings.Repeat(" ", 1000), filled("", "#\n", ""), filled("", "{}", ""), filled("", "BEGIN{}", ""), filled("", "END{}", ""), filled("", "0{}", ""), filled("", "1{}", ""), filled("", "0,0{}", ""), filled("", "1,1{}", ""), filled("", "1,0{}", ""), filled("", "//{}", ""), filled("", "//,//{}", ""), filled("", "{next;}", ""), filled("", "{print;}", ""), filled("", "BEGIN{}END{}{}", ""), filled("", "1{x=x.1;}", ""),
		filled("{", ";", "}"), filled("BEGIN{", ";", "}"), filled("{", "{}", "}"), filled("BEGIN{", "0;", "}"), filled("BEGIN{", "x;", "}"), filled("BEGIN{", "//;", "}"), filled("BEGIN{", "\"\";", "}"), filled("BEGIN{", "a[0];", "}"), filled("BEGIN{", "$0;", "}"), filled("BEGIN{", "getline;", "}"), filled("BEGIN{", "if(1);", "}"), filled("BEGIN{", "if(0);else;", "}"), filled("BEGIN{", "while(0);", "}"), filled("BEGIN{", "for(x in a);", "}"), filled("BEGIN{", "delete a;", "}"), filled("BEGIN{", "print;", "}"), filled("BEGIN{", "f();", "}"+eight), filled("BEGIN{", "f(f());", "}"+eight), filled("{", "x=1;", "}"), filled("{", "$1+=1;", "}"), filled("{", "a[1]/=1;", "}"), filled("BEGIN{", "exit;", "}"), filled("{", "next;", "}"), filled("function f(){", "return;", "}BEGIN{f();}"),
		nested("", "{", "", "}", ""), nested("BEGIN{while((i+=1)<50)", "{", "", "}", "}"), nested("BEGIN{while(1)", "{", "", "}", "}"), nested("BEGIN{a[1];a[2];for(k in a)", "{", "", "}", "}"), nested("BEGIN", "{", "", "}", ""), nested("END", "{", ";;", "}", ""), nested("function f()", "{", "", "}", "BEGIN{while((i+=1)<9)f();}"), nested("function f(n)", "{", "if(n)f(n-1);", "}", "BEGIN{f(19);}"), nested("1,0", "{", "", "}", ""),
		nested("BEGIN{", "if(1)", ";", "", "}"), nested("BEGIN{", "if(0);else ", ";", "", "}"), nested("BEGIN{", "if(1)", ";", "else;", "}"), nested("BEGIN{", "while(x+=1)", "exit;", "", "}"), nested("BEGIN{", "while(0)", ";", "", "}"), nested("BEGIN{a[1];", "for(x in a)", ";", "", "}"), nested("BEGIN{a[1];", "for(x in a)", "print x;", "", "}"), nested("BEGIN{a[1];", "for(x in a)", "break;", "", "}"), nested("{a[1];", "for(x in a)", "next;", "", "}"), nested("function f(){a[1];", "for(x in a)", "return x;", "", "}BEGIN{print f();}"), nested("BEGIN{", "for(x in a)while(1)", "break;", "", "}"),
		nested("BEGIN{x=", "(", "1", ")", ";}"), nested("BEGIN{x=", "1+(", "1", ")", ";}"), nested("BEGIN{x=", "1.(", "1", ")", ";}"), nested("BEGIN{x=", "x<(", "1", ")", ";}"), nested("BEGIN{x=", "1.1+1*(", "1", ")", ";}"), nested("BEGIN{x=", "1<1.1+1*(", "1", ")", ";}"), nested("BEGIN{x=", "(x=1<1.1+1*", "1", ")", ";}"), nested("BEGIN{x=", "-", "1", "", ";}"), nested("BEGIN{x=", "!", "1", "", ";}"), nested("BEGIN{x=", "!(", "1", ")", ";}"), nested("BEGIN{x=", "$", "1", "", ";}"), nested("BEGIN{", "$", "1", "", "=2;}"), nested("BEGIN{", "$1=", "1", "", ";}"), nested("BEGIN{", "$1+=", "1", "", ";}"), nested("BEGIN{", "$(0)-=", "1", "", ";}"), nested("BEGIN{", "x=", "1", "", ";}"), nested("BEGIN{", "x+=", "1", "", ";}"), nested("BEGIN{", "a[1]=", "1", "", ";}"), nested("BEGIN{", "a[1]+=", "1", "", ";}"), nested("BEGIN{", "a[", "1", "]", ";}"), nested("BEGIN{", "a[", "1", "]=1", ";}"), nested("BEGIN{", "a[", "1", "]+=1", ";}"), nested("BEGIN{", "$(", "0", ")", "=1;}"), nested("BEGIN{", "$(", "0", ")+=1", ";}"),
		nested("BEGIN{x=", "1?", "1", ":1", ";}"), nested("BEGIN{x=", "0?1:", "1", "", ";}"), nested("BEGIN{x=", "1?", "\"\"", ":1", ";}"), nested("BEGIN{x=", "0||(", "1", ")", ";}"), nested("BEGIN{x=", "1&&(", "1", ")", ";}"), nested("BEGIN{x=", "1||(", "1", ")", ";}"), filled("BEGIN{x=1", "||1", ";}"), filled("BEGIN{x=0", "||0", ";}"), filled("BEGIN{x=1", "&&1", ";}"), filled("BEGIN{x=0", "&&0", ";}"), filled("BEGIN{x=0", "&&0||0", ";}"), filled("BEGIN{x=1", "+1", ";}"), filled("BEGIN{x=1", "*1", ";}"), filled("BEGIN{x=1", "-1+1", ";}"), filled("BEGIN{x=\"\"", ".y", ";}"), filled("BEGIN{x=1", "~//", ";}"), filled("BEGIN{x=1", "!~/x/", ";}"), filled("BEGIN{x=1", " in a", ";}"), filled("BEGIN{x=1/0", "+1", ";}"),
		nested("BEGIN{x=", "length(", "1", ")", ";}"), nested("BEGIN{x=", "substr(1,1,", "1", ")", ";}"), nested("BEGIN{x=", "substr(", "1", ",1)", ";}"), nested("BEGIN{x=", "index(1,", "1", ")", ";}"), nested("BEGIN{x=", "swap(//,", "\"\"", ",\"\")", ";}"), nested("BEGIN{x=", "swap(/x/,1,", "1", ")", ";}"), nested("BEGIN{x=", "match(", "1", ",//)", ";}"), nested("BEGIN{x=", "split(", "1", ",a,//)", ";}"), nested("BEGIN{x=", "f(", "1", ")", ";}"+eight), nested("BEGIN{x=", "f(1,", "1", ")", ";}"+eight), nested("BEGIN{x=", "f(1,1,1,1,1,1,1,", "1", ")", ";}"+eight),
		filled("BEGIN{print 1", ",1", ";}"), filled("BEGIN{print x", ",x", ";}"), filled("BEGIN{print//", ",//", ";}"), filled("{print$1", ",$1", ";}"), filled("BEGIN{print", " 1,", "1;}"),
		filled("BEGIN{", "x%d=%[1]d;", "}"), filled("BEGIN{", "\"%d\";", "}"), filled("BEGIN{", "/%d/;", "}"), filled("BEGIN{", "a%d[1];", "}"), filled("BEGIN{", "x%d;a%[1]d[1];", "}"), filled("", "function f%d(){}", ""), filled("", "function f%d(x){return x;}", ""), filled("BEGIN{f0();}", "function f%d(){f0();}", ""), filled("", "/%d/{print/%[1]d/;}", ""), filled("", "/%d/,/%[1]dx/{}", ""), filled("function f(a,b,c,d,e,g,h,i){return a.b.c.d.e.g.h.i;}BEGIN{", "x=f(1,2,3,4,5,6,7,8);", "}"),
		"BEGIN{print\"" + strings.Repeat("a", 100) + "\";x=\"" + strings.Repeat("\\n", 100) + "\";print x;}", filled("BEGIN{", "x=\""+as(94)+"%d\";", "}"), filled("BEGIN{", "/"+as(47)+"%d/;", "}"), "BEGIN{" + xs(980) + "=1;}", "BEGIN{f" + xs(480) + "();}function f" + xs(480) + "(){}",
	}
}

func TestGreatSources(t *testing.T) {
	t.Parallel()
	for _, source := range greatSources() {
		if len(source) > api.MaxSource {
			t.Errorf("%.60q has %d bytes", source, len(source))
			continue
		}
		wantRight(t, source)
		for _, records := range [][]string{nil, {"a"}, {"1 2", "x", ""}, slices.Repeat([]string{"a b"}, 50)} {
			holdMeaning(t, source, records, []int{1, 0, 2}, 200000)
		}
		wantSourceFault(t, source+strings.Repeat(" ", api.MaxSource+1-len(source)), 0, api.ErrLong)
		wantRight(t, source+strings.Repeat(" ", api.MaxSource-len(source)))
	}
}

// The words tell the same of great sources; they take their time for it, so
// just of those with an order that is not of blocks and operators alone.
func TestGreatSourcesByTheWords(t *testing.T) {
	t.Parallel()
	for i, source := range greatSources() {
		if i%4 == 0 || strings.Contains(source, "function") {
			holdSource(t, source)
		}
	}
}

func TestLoopsThatDoNotEnd(t *testing.T) {
	t.Parallel()
	for _, source := range []string{
		"BEGIN { while (1) ; }", "BEGIN { while (1) { } }", "BEGIN { while (1) { ; { ; } ; } }", "BEGIN { while (1) while (0) ; }", "BEGIN { while (1) while (1) while (1) ; }", "BEGIN { while (1) continue; }", "BEGIN { while (1) if (0) break; }", "BEGIN { while (1) while (1) break; }", "BEGIN { while (!x) ; }", "BEGIN { while (\"x\") x = x; }", "BEGIN { while (1) for (k in a) ; }", "BEGIN { a[1]; while (1) for (k in a) continue; }", "BEGIN { while (1) f(); } function f() { }", "BEGIN { while (f()) ; } function f(a, b, c, d, e, g, h, i) { return 1; }", "{ while (1) ; }", "END { while (1) ; }", "1 { } { while (1) getline; }", "BEGIN { print 1; while (1) ; print 2; }", "BEGIN { while (1) { x += 1; x -= 1; } }", "BEGIN { while (1) { a[1]; delete a; } }", "BEGIN { while (1) 1 || 1 || 1; }", "BEGIN { while (1 ? 1 : 0) x ? y : z; }", "function f() { while (1) ; } f() { }", "0, 1 { } { while (1) draw; }",
	} {
		b := wantRight(t, source)
		for _, records := range [][]string{{"a"}, {"a", "b c"}} {
			m := holdMeaning(t, source, records, []int{1, 2}, 20000)
			if m == nil || m.Status != api.StGoing {
				t.Errorf("%s ends", source)
				continue
			}
			x, _ := glean.Open(b, records, []int{1, 2})
			if s := play(x, 500000); s.Status != api.StGoing || s.Used != 500000 || s.Output != m.Output {
				t.Errorf("%s: %+v, want %q", source, s, m.Output)
			}
		}
	}
}

// How many steps there are: P16 hangs on them.
func TestStepsByTheWords(t *testing.T) {
	for _, c := range []struct {
		source  string
		records int
		steps   int
	}{
		{"", 0, 0}, {"", 3, 3}, {"BEGIN { }", 3, 5}, {"BEGIN { } END { { } ; }", 0, 6}, {"{ }", 3, 9}, {"{ } { }", 2, 10}, {"0 { }", 2, 6}, {"1 { }", 2, 8}, {"1, 0 { }", 2, 9}, {"0, 1 { }", 2, 6}, {"BEGIN { 1; }", 0, 4}, {"BEGIN { ((1)); }", 0, 4}, {"BEGIN { 1 + 2; }", 0, 6}, {"BEGIN { x = 1; }", 0, 5}, {"BEGIN { if (1) ; }", 0, 5}, {"BEGIN { while (0) ; }", 0, 5}, {"BEGIN { while ((x += 1) < 3) ; }", 0, 2 + 1 + 3*(1+2+2) + 2}, {"BEGIN { for (x in a) ; }", 0, 3}, {"BEGIN { a[1]; for (x in a) ; }", 0, 2 + 3 + 1 + 2}, {"BEGIN { f(1); } function f(a) { }", 0, 6}, {"BEGIN { f(1); } function f(a) { return; }", 0, 7}, {"BEGIN { 1 || 2; }", 0, 5}, {"BEGIN { 0 || 2; }", 0, 6}, {"BEGIN { 1 ? 2 : 3; }", 0, 6}, {"BEGIN { print; print 1, 2; }", 0, 6}, {"BEGIN { -!1; }", 0, 6},
	} {
		if m := holdMeaning(t, c.source, make([]string, c.records), nil, 1000); m == nil || m.fewest != c.steps {
			t.Errorf("%q with %d records: %+v, want %d", c.source, c.records, m, c.steps)
		}
	}
}

// In a run that has not ended, too, the machine keeps pace with the meaning:
// what is printed behind so many steps is printed behind Work times as many
// instructions and Work more.
func TestTheMachineKeepsPace(t *testing.T) {
	t.Parallel()
	records, draws := []string{"a b", "2", "x y z", ""}, []int{2, 1, 0}
	for _, source := range []string{
		"BEGIN { while (1) print x += 1; }", "{ print; for (k in a) print k; a[NR]; } END { while (draw) print NR; print; }", "BEGIN { while (1) { ; { ; } if ((i += 1) % 3) continue; print i; } }", "function f(n) { print n; if (n) { f(n - 1); } print n; } BEGIN { f(19); f(20); }", "NR == 2, 0 { print NR; } { print $0; next; } { print; }", "function f(a, b, c, d, e, g, h, i) { return i; } BEGIN { while (1) print f() . f(f(), f()); }", "BEGIN { while (print_ += 1) { print 1 || x, 0 || x, 1 && x, !x, x ? 1 : 2, -x, x . x, x in a, x ~ /a/, //; } }", "BEGIN { while (1) { $1 += 1; a[$1 % 7] += $1; print $0, a[$1 % 7]; } }",
	} {
		for limit := 1; limit < 600; limit += 1 + limit/50 {
			holdMeaning(t, source, records, draws, limit)
		}
	}
}
