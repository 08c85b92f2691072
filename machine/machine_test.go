package machine

import (
	"fmt"
	"slices"
	"testing"

	"glean/api"
	"glean/values"
)

func TestArrayKeepsOrderAndElementsTogether(t *testing.T) {
	a := newArray()
	for i := range api.MaxElements {
		a.set(fmt.Sprint(i), values.Number(i))
	}
	if a.takes("more") || !a.takes("0") {
		t.Error("a full array takes what it has, and nothing more")
	}
	a.remove("3")
	a.remove("3")
	a.remove("never there")
	if !a.takes("more") || a.has("3") || len(a.order) != api.MaxElements-1 || len(a.elements) != api.MaxElements-1 {
		t.Errorf("%d keys, %d elements", len(a.order), len(a.elements))
	}
	if v := a.lookUp("3"); v != (values.Value{}) || a.order[len(a.order)-1] != "3" {
		t.Errorf("%+v, %q", v, a.order)
	}
	a.empty()
	if a.has("0") || len(a.keys()) != 0 || len(a.elements) != 0 {
		t.Errorf("emptied: %q", a.keys())
	}
	a.fill([]string{"x", "5"})
	if !slices.Equal(a.keys(), []string{"1", "2"}) || a.lookUp("2") != values.Read("5") {
		t.Errorf("filled: %q", a.keys())
	}
}

func TestWalkPassesOverForGood(t *testing.T) {
	a := newArray()
	a.fill([]string{"x", "y", "z"})
	w := walk{array: &a, left: a.keys()}
	a.remove("1")
	if key, found := w.next(); key != "2" || !found {
		t.Errorf("%q, %v", key, found)
	}
	a.set("1", values.Number(1))
	a.remove("3")
	if key, found := w.next(); key != "" || found {
		t.Errorf("%q, %v", key, found)
	}
	a.set("3", values.Number(1))
	if key, found := w.next(); key != "" || found {
		t.Errorf("%q, %v", key, found)
	}
}

func TestRecordsAreNotWrittenInto(t *testing.T) {
	r := newRecord("a b")
	changed := r.with(3, "c d")
	again := changed.with(1, "x")
	if r.text != "a b" || !slices.Equal(r.fields, []string{"a", "b"}) {
		t.Errorf("the first: %+v", r)
	}
	if changed.text != "a b c d" || !slices.Equal(changed.fields, []string{"a", "b", "c d"}) {
		t.Errorf("the second: %+v", changed)
	}
	if again.text != "x b c d" || !slices.Equal(again.fields, []string{"x", "b", "c d"}) {
		t.Errorf("the third: %+v", again)
	}
}

func TestPart(t *testing.T) {
	for _, c := range []struct {
		from, count int
		want        string
	}{
		{1, 3, "abc"}, {2, 1, "b"}, {0, 2, "a"}, {3, 9, "c"}, {4, 1, ""}, {1, 0, ""}, {2, -1, ""}, {-api.MaxNumber, api.MaxNumber, ""}, {2 - api.MaxNumber, api.MaxNumber, "a"}, {api.MaxNumber, api.MaxNumber, ""},
	} {
		if got := part("abc", c.from, c.count); got != c.want {
			t.Errorf("part of abc from %d, %d: %q, want %q", c.from, c.count, got, c.want)
		}
	}
}

func TestIsScript(t *testing.T) {
	if !IsScript(nil, nil) || !IsScript(make([]string, api.MaxRecords), []int{api.MaxNumber, -api.MaxNumber}) {
		t.Error("right ones are refused")
	}
	if IsScript(make([]string, api.MaxRecords+1), nil) || IsScript(nil, make([]int, api.MaxDraws+1)) || IsScript(nil, []int{api.MaxNumber + 1}) || IsScript(nil, []int{-api.MaxNumber - 1}) || IsScript([]string{string(make([]byte, api.MaxText+1))}, nil) {
		t.Error("wrong ones are taken")
	}
}

// BenchmarkGo: a loop that counts.
func BenchmarkGo(b *testing.B) {
	end := api.Func{Code: "\x34"}
	m := api.Module{Globals: 1, Funcs: []api.Func{{Code: "\x05\x00\x1a\x00\x02\x12\x00\xce\x0f\x16\x06\x00\x30\x00\x34"}, end, end}}
	x := New(m, nil, nil)
	for b.Loop() {
		x.Go(api.MaxFuel)
	}
	if x.Tell().Status != api.StGoing {
		b.Fatal(x.Tell())
	}
}
