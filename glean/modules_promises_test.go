package glean_test

import (
	"math"
	"reflect"
	"slices"
	"strings"
	"sync"
	"testing"

	"glean/api"
	"glean/glean"
)

// P1

// hardModules are right and wrong ones that a writer could lose its way in.
func hardModules() []api.Module {
	out := []api.Module{
		{}, {Texts: make([]string, 3000000)}, {Patterns: make([]string, 3000000)}, {Funcs: make([]api.Func, 1000000)},
		changed(func(m *api.Module) { m.Texts = []string{strings.Repeat("a", 3000000)} }),
		changed(func(m *api.Module) { m.Patterns = []string{strings.Repeat("(", 3000000)} }),
		changed(func(m *api.Module) { m.Funcs[2].Code = strings.Repeat("a", 3000000) }),
	}
	for _, n := range []int{math.MinInt, math.MinInt32, -1, 1, 127, 128, 1 << 35, math.MaxInt32, math.MaxInt} {
		out = append(out,
			changed(func(m *api.Module) { m.Globals = n }), changed(func(m *api.Module) { m.Arrays = n }),
			changed(func(m *api.Module) { m.Funcs[0].Params = n }), changed(func(m *api.Module) { m.Funcs[0].Locals = n }),
			changed(func(m *api.Module) { m.Funcs = append(m.Funcs, api.Func{Params: n, Locals: n}) }),
		)
	}
	return out
}

func TestPackEndsAndDoesNotPanic(t *testing.T) {
	for i, m := range hardModules() {
		b, e := glean.Pack(m)
		if e != api.OK && (b != "" || e != api.ErrLimit) || e == api.OK && b == "" {
			t.Errorf("the module %d: %d bytes, %d", i, len(b), e)
		}
	}
}

func TestUnpackEndsAndDoesNotPanic(t *testing.T) {
	whole := bytesWith("\x01\x02ab", "\x01\x02a*", "\x01", "\x02", plainFuncs)
	for _, b := range []string{"", "\x00", "\xff", strings.Repeat("\x00", 40000), strings.Repeat("\xff", 40000), strings.Repeat("\xff", 3000000)} {
		for cut := range len(whole) + 1 {
			m, at, e := glean.Unpack(whole[:cut] + b)
			if e != api.OK && !reflect.DeepEqual(m, api.Module{}) || at < 0 || at > cut+len(b) || (e == api.OK || e == api.ErrLong) && at != 0 {
				t.Errorf("%d bytes and %d of %.3q: %v, %d, %d", cut, len(b), b, m, at, e)
			}
		}
	}
}

// P2

// roomy is a copy of a list with spare room behind it, filled with mark.
func roomy[T any](list []T, mark T) []T {
	whole := append(slices.Clone(list), mark, mark, mark)
	return whole[:len(list)]
}

func roomyModule() api.Module {
	return api.Module{
		Texts: roomy([]string{"one", "two"}, "mark"), Patterns: roomy([]string{"a*", "b+"}, "mark"), Globals: 3, Arrays: 4,
		Funcs: roomy([]api.Func{{Code: "\x34"}, {Locals: 2, Code: "\x34"}, {Code: "\x34"}, {Params: 1, Locals: 1, Code: "\x02\x33"}}, api.Func{Params: -7}),
	}
}

// withSpare is a module with its lists as long as their memory.
func withSpare(m api.Module) api.Module {
	m.Texts, m.Patterns, m.Funcs = m.Texts[:cap(m.Texts)], m.Patterns[:cap(m.Patterns)], m.Funcs[:cap(m.Funcs)]
	return m
}

func TestPackLeavesTheModuleAsItIs(t *testing.T) {
	m := roomyModule()
	packed, e := glean.Pack(m)
	if e != api.OK {
		t.Fatalf("Pack: %d", e)
	}
	if !reflect.DeepEqual(withSpare(m), withSpare(roomyModule())) {
		t.Errorf("Pack wrote into the module: %v", withSpare(m))
	}
	kept := strings.Clone(packed)
	m.Texts[0], m.Patterns[0], m.Funcs[0] = "other", "c", api.Func{Locals: 9}
	if packed != kept {
		t.Errorf("Pack's answer hangs on what was written behind the call")
	}
	other, _ := glean.Pack(m)
	if again, _ := glean.Pack(roomyModule()); again != kept || other == kept {
		t.Errorf("Pack's answer hangs on an earlier call")
	}
	refused, same := roomyModule(), roomyModule()
	refused.Funcs[3].Params, same.Funcs[3].Params = 9, 9
	if _, e := glean.Pack(refused); e != api.ErrLimit || !reflect.DeepEqual(withSpare(refused), withSpare(same)) {
		t.Errorf("Pack, with the error %d, wrote into the module: %v", e, withSpare(refused))
	}
}

func TestUnpackGivesNewLists(t *testing.T) {
	packed, _ := glean.Pack(roomyModule())
	want := roomyModule()
	first, _, _ := glean.Unpack(packed)
	second, _, _ := glean.Unpack(packed)
	for _, list := range [][]string{first.Texts, append(first.Texts, "x", "y"), withSpare(first).Texts} {
		for i := range list {
			list[i] = "written"
		}
		if !slices.Equal(first.Patterns, want.Patterns) || !slices.Equal(first.Funcs, want.Funcs) {
			t.Fatalf("lists of one answer share memory: %v", first)
		}
	}
	for _, list := range [][]string{first.Patterns, append(first.Patterns, "x", "y"), withSpare(first).Patterns} {
		for i := range list {
			list[i] = "laid"
		}
		if first.Texts[0] != "written" || first.Texts[1] != "written" || !slices.Equal(first.Funcs, want.Funcs) {
			t.Fatalf("lists of one answer share memory: %v", first)
		}
	}
	for _, list := range [][]api.Func{append(first.Funcs, api.Func{}), withSpare(first).Funcs} {
		clear(list)
	}
	if !sameModule(second, want) {
		t.Errorf("two answers share memory: %v", second)
	}
	if third, _, _ := glean.Unpack(packed); !sameModule(third, want) {
		t.Errorf("a later answer hangs on an earlier one: %v", third)
	}
}

func TestModulesHangOnTheArgumentsAlone(t *testing.T) {
	whole, _ := glean.Pack(roomyModule())
	texts := []string{whole, whole[1:], whole[:9], bytesWith("\x01\x02ab", "\x00", "\x05", "\x06", plainFuncs), seal(whole), ""}
	type answer struct {
		m  api.Module
		at int
		e  api.Errno
	}
	var want []answer
	for _, b := range texts {
		m, at, e := glean.Unpack(b)
		want = append(want, answer{m, at, e})
	}
	var group sync.WaitGroup
	for range 8 {
		group.Go(func() {
			for k := len(texts) - 1; k >= 0; k-- {
				m, at, e := glean.Unpack(texts[k])
				if !reflect.DeepEqual(answer{m, at, e}, want[k]) {
					t.Errorf("Unpack(%q): %v, then %v, %d, %d", texts[k], want[k], m, at, e)
				}
				if b, errno := glean.Pack(m); e == api.OK && (b != texts[k] || errno != api.OK) {
					t.Errorf("Pack of Unpack(%q) = %q, %d", texts[k], b, errno)
				}
			}
		})
	}
	group.Wait()
}
