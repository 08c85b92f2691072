package glean_test

import (
	"strings"
	"testing"

	"glean/api"
)

// faultAt is a source in which a ^ stands ahead of the token that is at fault.
func faultAt(t *testing.T, marked string, e api.Errno) {
	t.Helper()
	at := strings.Index(marked, "^")
	source := strings.Replace(marked, "^", "", 1)
	if e == api.OK {
		wantRight(t, source)
		at = 0
	} else {
		wantSourceFault(t, source, at, e)
	}
	if _, wordsAt, wordsE := sourceByTheWords(source); wordsAt != at || wordsE != e {
		t.Errorf("by the words %q is %d, %d", source, wordsAt, wordsE)
	}
}

func TestNameFaults(t *testing.T) {
	for _, marked := range []string{
		// A function that is defined already.
		"function f() { } function ^f() { }", "function f(a) { } { f(1); } function ^f(b) { }", "function f() { } function g() { } function ^f() { } function g() { }", "BEGIN { f(); } function f() { } END { } function ^f() { } function f() { }",
		// Parameters.
		"function f(^f) { }", "function f(a, ^f) { }", "function f(^g) { } function g() { }", "function g() { } function f(a, b, ^g) { }", "function f(a, ^a) { }", "function f(a, b, ^a) { }", "function f(a, b, ^b, a) { }", "function f(^g, a, a) { } function g() { }", "function f(a, b, c, d, e, g, h, i, ^a) { }", "function f(a, b, c, d, e, g, h, i, ^f) { }",
		// Calls of what is no function.
		"{ ^f(); }", "{ x = 1 + ^f(1); }", "{ ^f(g()); } function h() { }", "{ f(^g()); } function f(a) { }", "function f(a) { ^a(); }", "function f(a) { ^g(); }", "{ x = 1; ^x(); }", "{ a[1] = 2; ^a(1); }", "^f() { }", "{ ^f(1, 2, 3, 4, 5, 6, 7, 8, 9); }", "{ print ^f(); } function g() { f(); }", "{ ^x(); x = 1; }", "{ ^x(); x[1] = 1; }",
		// Arrays that are something else.
		"BEGIN { x = 1; ^x[2] = 3; }", "BEGIN { x; ^x[2]; }", "{ y = x; delete ^x; }", "{ y = x; delete ^x[1]; }", "{ print x; print 1 in ^x; }", "{ print x; for (y in ^x) ; }", "{ print x; split(1, ^x, /a/); }", "{ for (x in ^x) ; }", "{ for (x in a) ^x[1]; }", "{ x in ^x; }", "{ split(x, ^x, /a/); }", "{ x ~ /a/ in ^x; }", "{ y[x] = ^x[1]; }", "{ y = x + ^x[1]; }", "{ $x = ^x[1]; }", "x { ^x[1] = 2; }", "x, y { delete ^y; }",
		"function f() { } { ^f[1] = 2; }", "function f() { } { delete ^f; }", "function f() { } { delete ^f[1]; }", "function f() { } { 1 in ^f; }", "function f() { } { for (x in ^f) ; }", "function f() { } { split(1, ^f, /a/); }", "{ ^f[1] = 2; } function f() { }", "{ 1 in ^f; } function f() { }", "function f() { ^f[1]; }",
		"function f(a) { ^a[1] = 2; }", "function f(a) { delete ^a; }", "function f(a) { 1 in ^a; }", "function f(a) { for (x in ^a) ; }", "function f(a) { split(1, ^a, /a/); }", "function f(a, b, c) { x[b] = ^c[1]; }", "{ a[1] = 2; } function f(a) { ^a[1] = 2; }", "function f(a) { ^a[1]; } { a[1] = 2; }", "function f() { a = 1; } { ^a[1] = 2; }", "{ a = 1; } function f() { ^a[1] = 2; }",
		"function f(a) { a; } { a = 1; } function g(a) { a; } function h() { ^a[1]; }",
		// Variables that are something else.
		"{ x[2] = 3; ^x = 1; }", "{ x[2] = 3; y = ^x; }", "{ delete x; y = ^x; }", "{ delete x[1]; ^x += 1; }", "{ 1 in x; ^x; }", "{ split(1, x, /a/); ^x; }", "{ for (y in x) ; for (^x in y) ; }", "{ for (y in x) print ^x; }", "{ x[^x] = 1; }", "{ delete x[^x]; }", "{ split(y, x, /a/) + ^x; }", "{ x[1] = ^x; }", "{ $x[1] = ^x; }", "{ print x[1], ^x; }", "{ a[1]; for (^a in b) ; }", "{ a[1]; } ^a { }", "{ a[1]; } 1, ^a { }", "{ (1 in a) . ^a; }",
		"function f() { } { ^f = 1; }", "function f() { } { x = ^f; }", "function f() { } { for (^f in a) ; }", "function f() { } ^f { }", "{ ^f; } function f() { }", "{ x = f() + ^f; } function f() { }", "function f() { return ^f; }", "function f() { } { x[^f] = 1; }", "function f() { } { $^f; }", "{ print (^f); } function f() { }",
		"function f() { a[1]; } { ^a = 2; }", "{ a[1]; } function f(b) { ^a = 2; }", "{ a[1]; } function f(a) { a = 1; } { ^a = 2; }", "function f(a) { a = 1; } { a[1]; } function g() { ^a; }",
	} {
		faultAt(t, marked, api.ErrName)
	}
}

func TestCountFaults(t *testing.T) {
	for _, marked := range []string{
		"function f(a) { return a; } { ^f(1, 2); }", "function f() { } { ^f(1); }", "{ ^f(1); } function f() { }", "{ x = 1 + ^f(1, 2, 3); } function f(a, b) { }", "function f(a, b, c, d, e, g, h, i) { } { ^f(1, 2, 3, 4, 5, 6, 7, 8, 9); }", "function f() { ^f(1); }", "function f(a) { f(^f(1, 2)); }", "{ ^f(g(1), g(1, 2)); } function f(a) { } function g(a) { }", "function f(a) { } { f(f(f(^f(1, f(1, 2))))); }", "{ ^f(x, y, z); } function f() { }", "^f(1) { } function f() { }", "{ print ^f(1), f(2); } function f() { }",
		"function f(a, b, c, d, e, g, h, i, ^j) { }", "function f(a, b, c, d, e, g, h, i, ^j, k, l) { }", "{ f(1, 2, 3, 4, 5, 6, 7, 8, 9); } function f(a, b, c, d, e, g, h, i, ^j) { }", "{ f(1, 2, 3, 4, 5, 6, 7, 8, 9, 10); } function f(a, b, c, d, e, g, h, i, ^j, k) { }", "{ ^f(1, 2, 3, 4, 5, 6, 7, 8, 9, 10); } function f(a, b, c, d, e, g, h, i, j) { }",
		// It is the first item that defines it.
		"{ ^f(1); } function f() { } function f(a) { }", "function f(a, b) { } { ^f(1, 2, 3); } function f(a, b, c) { }",
		// Doubled parameters are parameters.
		"function g() { ^f(1, 2, 3); } function f(a, a) { }",
	} {
		faultAt(t, marked, api.ErrCount)
	}
	faultAt(t, "{ f(1, 2); } function f(a, ^a) { }", api.ErrName)
	faultAt(t, "{ f(1, 2); } function f(a, b) { } function ^f() { }", api.ErrName)
}

func TestPlaceFaults(t *testing.T) {
	for _, marked := range []string{
		"BEGIN { ^next; }", "END { ^next; }", "function f() { ^next; }", "{ next; } END { ^next; }", "{ next; } function f() { ^next; } { next; }", "BEGIN { while (1) { if (1) { ^next; } } }", "END { for (x in a) ^next; } { next; }", "BEGIN { if (1) ; else ^next; }",
		"{ ^return; }", "{ ^return 1; }", "BEGIN { ^return; }", "END { ^return x; }", "function f() { return; } { ^return; }", "1 { while (1) ^return; }", "1, 2 { ^return f(); } function f() { return; }",
		"{ ^break; }", "BEGIN { ^break; }", "END { if (1) ^break; }", "function f() { ^break; }", "{ while (1) break; ^break; }", "{ while (1) { } ^break; }", "{ for (x in a) ; ^break; }", "{ while (1) f(); } function f() { ^break; }", "{ if (1) { { ^break; } } }",
		"{ ^continue; }", "BEGIN { ^continue; }", "END { ^continue; }", "function f() { ^continue; }", "{ while (1) { continue; } ^continue; }", "{ for (x in a) continue; ^continue; }", "{ if (1) while (1) break; else ^continue; }", "{ if (1) ^continue; else while (1) break; }",
	} {
		faultAt(t, marked, api.ErrPlace)
	}
	for _, source := range []string{
		"{ next; }", "1 { next; }", "1, 2 { next; }", "{ while (1) { for (x in a) if (1) next; else next; } }", "{ { { next; } } }", "function f() { return; return 1; while (1) { return; } for (x in a) { { return x; } } }", "BEGIN { while (1) break; }", "END { while (1) { if (1) continue; else { break; } } }", "function f() { for (x in a) break; for (x in a) { while (1) break; continue; } }", "{ while (1) while (1) { break; } }", "{ for (x in a) { while (1) ; break; } }", "BEGIN { exit; } { exit; } END { exit 1; } function f() { exit 2; }", "{ while (1) { if (x) break; next; } }",
	} {
		faultAt(t, source, api.OK)
	}
}

// Of several faults the one whose token comes first.
func TestSeveralFaults(t *testing.T) {
	for _, c := range []struct {
		marked string
		e      api.Errno
	}{
		{"{ ^break; x = 1; x[1] = 2; }", api.ErrPlace}, {"{ x = 1; ^x[1] = 2; break; }", api.ErrName}, {"{ ^f(1); g(); break; } function f() { }", api.ErrCount}, {"{ ^g(); f(1); break; } function f() { }", api.ErrName}, {"BEGIN { ^next; } function f(a, a) { }", api.ErrPlace}, {"function f(a, ^a) { next; }", api.ErrName}, {"function f(a, b, c, d, e, g, h, i, ^j, j) { }", api.ErrCount}, {"function f(a, b, c, d, e, g, h, i, ^i, j) { }", api.ErrName},
		{"{ ^f(x[1], x); }", api.ErrName}, {"{ ^f(x[1], x); } function f(a) { }", api.ErrCount}, {"{ f(x[1], ^x); } function f(a, b) { }", api.ErrName}, {"{ while (1) { ^x(); break; } break; }", api.ErrName}, {"{ ^return f(1); } function f() { }", api.ErrPlace}, {"function f() { return ^f(1); } { return; }", api.ErrCount}, {"function f() { } function ^f(a, a) { next; }", api.ErrName}, {"{ a[1]; ^a; a(); f; }", api.ErrName}, {"function f(x) { ^x[1]; x(); }", api.ErrName},
		{"{ for (^f in f) ; } function f() { }", api.ErrName}, {"{ a[^b(1)] = c(2); } function c() { }", api.ErrName}, {"{ ^a[b(1)] = c(2); } function a() { }", api.ErrName},
		// Syntax comes ahead of all.
		{"{ x = 1; x[1] = 2; break ^}", api.ErrSyntax}, {"function f(a, a) { next; } ^)", api.ErrSyntax}, {"BEGIN { next; ^", api.ErrSyntax}, {"{ f(1); } function f() { return ^}", api.ErrSyntax},
	} {
		faultAt(t, c.marked, c.e)
	}
}

func TestNamesWithoutFault(t *testing.T) {
	for _, c := range []struct{ source, want string }{
		// A parameter may have the name of an array or of a variable elsewhere.
		{"function f(a) { a = a + 1; return a; } BEGIN { a[1] = 5; print f(a[1]), a[1]; }", "6 5\n"},
		{"BEGIN { a[1] = 5; print f(a[1]), a[1]; } function f(a) { a = a + 1; return a; }", "6 5\n"},
		{"function f(x) { x = 7; return x; } BEGIN { x = 1; print f(x), x; }", "7 1\n"},
		{"function f(x) { g(); return x; } function g() { x = x + 1; } BEGIN { x = 1; print f(5), x; }", "5 2\n"},
		{"function f(a) { return g(a); } function g(b) { return a[b]; } BEGIN { a[3] = 4; print f(3); }", "4\n"},
		{"function f(x, y) { x = y; y = 1; return x . y; } function g(y, x) { return x . y; } BEGIN { print f(2, 3), g(2, 3), x . y . \"-\"; }", "31 32 -\n"},
		{"function f(a) { for (a in b) ; return a; } BEGIN { b[1]; b[2]; print f(0), a . \"-\"; }", "2 -\n"},
		// What is used ahead of the item that defines it.
		{"BEGIN { print f(2); } function f(x) { return g(x) + 1; } function g(x) { return x * 2; }", "5\n"},
		{"BEGIN { f(); print x, a[1]; } function f() { x = 1; a[1] = 2; }", "1 2\n"},
		// Names of arrays, variables and functions that differ a little.
		{"function f1() { return 1; } BEGIN { f = 2; f2[1] = 3; print f1(), f, f2[1]; }", "1 2 3\n"},
		// Once for the whole run.
		{"BEGIN { x = 1; a[1] = 2; } END { print x, a[1]; }", "1 2\n"},
		{"function f() { x += 1; a[x] = x; return 1; } BEGIN { f(); f(); print x, a[1], a[2], 3 in a; }", "2 1 2 0\n"},
		// The first use tells what it is, wherever that is.
		{"function f(x) { return x; } { delete x; } BEGIN { x[1] = f(3); print x[1]; }", "3\n"},
		{"function f() { return 1; } BEGIN { print f() + f(), f(); }", "2 1\n"},
		{"function f(a, b, c, d, e, g, h, i) { return a . b . c . d . e . g . h . i; } BEGIN { print f(1, 2, 3, 4, 5, 6, 7, 8), f(1, 2, 3), f() . \"-\"; }", "12345678 123 -\n"},
	} {
		faultAt(t, c.source, api.OK)
		if s := runSource(t, c.source, nil, nil); s.Output != c.want || s.Status != api.StEnded {
			t.Errorf("%s: %+v, want %q", c.source, s, c.want)
		}
	}
}
