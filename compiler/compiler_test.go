package compiler

import (
	"reflect"
	"testing"

	"glean/api"
	"glean/code"
	"glean/syntax"
)

// Jumps over so many bytes, forth and back: places of one byte, two and three.
func TestPlaces(t *testing.T) {
	for _, between := range []int{0, 1, 60, 61, 62, 63, 64, 65, 66, 67, 100, 8180, 8186, 8187, 8188, 8189, 8190, 8191, 8192, 8193, 9000} {
		var b body
		out, again := b.newLabel(), b.newLabel()
		b.lay(again)
		b.add(api.OpNf)
		b.addTo(api.OpJz, out)
		for range between {
			b.add(api.OpNil)
			b.add(api.OpDrop)
		}
		b.addTo(api.OpJump, again)
		b.lay(out)
		b.add(api.OpEnd)
		end := api.Func{Code: string([]byte{api.OpEnd})}
		m := api.Module{Funcs: []api.Func{{Code: b.code()}, end, end}}
		if _, place, errno := code.Check(m); errno != api.OK {
			t.Errorf("%d between: %d, %d", between, place, errno)
			continue
		}
		all, _, _ := code.Read(m, 0)
		if all[1].To != len(all)-1 || all[len(all)-2].To != 0 {
			t.Errorf("%d between: %+v, %+v", between, all[1], all[len(all)-2])
		}
	}
}

// Many jumps to one place that is about as far as a place of one byte may be.
func TestPlacesThatGrowEachOther(t *testing.T) {
	for jumps := range 70 {
		for more := range 4 {
			var b body
			out := b.newLabel()
			for range jumps {
				b.add(api.OpNf)
				b.addTo(api.OpJz, out)
			}
			for range more {
				b.add(api.OpAclear, 0)
			}
			b.lay(out)
			b.add(api.OpEnd)
			m := api.Module{Arrays: 1, Funcs: []api.Func{{Code: b.code()}}}
			if _, place, errno := code.Check(m); errno != api.OK {
				t.Errorf("%d jumps: %d, %d", jumps, place, errno)
			}
		}
	}
}

func module(t *testing.T, source string) api.Module {
	t.Helper()
	p, place, errno := syntax.Read(source)
	if errno != api.OK {
		t.Fatalf("%s: %d, %d", source, place, errno)
	}
	return Module(p)
}

// What is there once in a source is there once in the module.
func TestTablesHaveNoDoubles(t *testing.T) {
	m := module(t, `/p/, /q/ { x = "a" . "b" . "a"; y = x; a[1] = b[2]; a[x] = "b"; } $0 ~ /p/, 1 { } function f(x, z) { z = x; y = "c"; } function g() { f(); }`)
	want := api.Module{Texts: []string{"a", "b", "c"}, Patterns: []string{"p", "q"}, Globals: 4, Arrays: 2}
	if !reflect.DeepEqual(m.Texts, want.Texts) || !reflect.DeepEqual(m.Patterns, want.Patterns) || m.Globals != want.Globals || m.Arrays != want.Arrays || len(m.Funcs) != 5 {
		t.Errorf("%q, %q, %d, %d, %d", m.Texts, m.Patterns, m.Globals, m.Arrays, len(m.Funcs))
	}
	if f := m.Funcs[3]; f.Params != 2 || f.Locals != 2 {
		t.Errorf("%+v", f)
	}
}

// The empty program has the module of the document's example.
func TestTheEmptyProgram(t *testing.T) {
	m := module(t, "")
	end := api.Func{Code: string([]byte{api.OpEnd})}
	if len(m.Texts)+len(m.Patterns)+m.Globals+m.Arrays != 0 || !reflect.DeepEqual(m.Funcs, []api.Func{end, end, end}) {
		t.Errorf("%+v", m)
	}
}
