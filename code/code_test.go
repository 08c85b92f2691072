package code

import (
	"slices"
	"strings"
	"testing"

	"glean/api"
)

// moduleOf is a module with this code in function 0.
func moduleOf(code string) api.Module {
	end := api.Func{Code: "\x34"}
	return api.Module{Texts: []string{"a"}, Patterns: []string{"a", "b"}, Arrays: 3, Funcs: []api.Func{{Locals: 1, Code: code}, end, end, {Params: 2, Locals: 2, Code: "\x02\x33"}}}
}

func TestReadTellsTheInstructions(t *testing.T) {
	m := moduleOf("\x30\x0b" + "\x00\x80\xa8\xd6\xb9\x07" + "\x26\x02\x01" + "\x09" + "\x31\x0b" + "\x34")
	want := []Instruction{
		{Op: api.OpJump, Place: 0, Operands: [2]int{11, 0}, To: 3},
		{Op: api.OpNum, Place: 2, Operands: [2]int{2000000000, 0}},
		{Op: api.OpSplit, Place: 8, Operands: [2]int{2, 1}},
		{Op: api.OpNf, Place: 11},
		{Op: api.OpJz, Place: 12, Operands: [2]int{11, 0}, To: 3},
		{Op: api.OpEnd, Place: 14},
	}
	got, place, errno := Read(m, 0)
	if !slices.Equal(got, want) || place != 0 || errno != api.OK {
		t.Errorf("Read = %v, %d, %d, want %v", got, place, errno, want)
	}
	if got, place, errno := Read(moduleOf(""), 0); len(got) != 0 || place != 0 || errno != api.OK {
		t.Errorf("Read of no code = %v, %d, %d", got, place, errno)
	}
}

func TestReadTellsNothingBesideAFault(t *testing.T) {
	for _, c := range []struct {
		code  string
		place int
		errno api.Errno
	}{
		{"\x09\x36", 1, api.ErrOp}, {"\x09\x33", 1, api.ErrOp}, {"\x09\x01\x01", 1, api.ErrOperand}, {"\x09\x01", 1, api.ErrOperand},
		{"\x09\x30\x02", 1, api.ErrJump}, {"\x30\xff\xff\xff\xff\x7f", 0, api.ErrJump}, {"\x30\x80\x80\x80\x80\x10", 0, api.ErrJump},
	} {
		if got, place, errno := Read(moduleOf(c.code), 0); got != nil || place != c.place || errno != c.errno {
			t.Errorf("Read of %q = %v, %d, %d, want %d, %d", c.code, got, place, errno, c.place, c.errno)
		}
	}
}

func TestStackGivesBackWhatItTook(t *testing.T) {
	var s stack
	kinds := num + txt + value + keys + junk
	for i := range api.MaxHeight {
		s.push(kinds[i%len(kinds)])
	}
	if s.wrong || s.height != api.MaxHeight {
		t.Fatalf("full: wrong %v, height %d", s.wrong, s.height)
	}
	tooHigh := s
	if tooHigh.push(num[0]); !tooHigh.wrong || tooHigh.height != api.MaxHeight {
		t.Errorf("above its height: wrong %v, height %d", tooHigh.wrong, tooHigh.height)
	}
	for i := api.MaxHeight - 1; i >= 0; i-- {
		if got := s.pop(junk[0]); got != kinds[i%len(kinds)] || s.wrong {
			t.Fatalf("the cell %d: %d, wrong %v", i, got, s.wrong)
		}
	}
	if s != (stack{}) {
		t.Errorf("emptied, it is not as at first")
	}
	if s.pop(junk[0]); !s.wrong || s.height != 0 {
		t.Errorf("below its bottom: wrong %v, height %d", s.wrong, s.height)
	}
}

func TestStackMeets(t *testing.T) {
	for _, c := range []struct {
		one, other, want string
	}{
		{"", "", ""}, {num, num, num}, {num, txt, value}, {value, num, value}, {num, value, value}, {junk, keys, junk}, {value, keys, junk},
		{num + txt + keys, num + num + keys, num + value + keys}, {strings.Repeat(num, 40), strings.Repeat(num, 39) + txt, strings.Repeat(num, 39) + value},
	} {
		var one, other, want stack
		one.leave(c.one)
		other.leave(c.other)
		want.leave(c.want)
		changed := one.meet(&other)
		if one != want || changed != (c.one != c.want) {
			t.Errorf("%q and %q: %v, changed %v", c.one, c.other, one, changed)
		}
		if one.meet(&other) {
			t.Errorf("%q and %q: changed again", c.one, c.other)
		}
	}
}

func TestCheckOfModules(t *testing.T) {
	m := moduleOf("\x02\x02\x32\x03\x2f\x34")
	if f, place, errno := Check(m); f != 0 || place != 0 || errno != api.OK {
		t.Errorf("a right one: %d, %d, %d", f, place, errno)
	}
	m.Funcs[3].Code = "\x33"
	if f, place, errno := Check(m); f != 3 || place != 0 || errno != api.ErrFlow {
		t.Errorf("a wrong one: %d, %d, %d", f, place, errno)
	}
}

// BenchmarkCheck: a full module of loops, each with its stack full.
func BenchmarkCheck(b *testing.B) {
	code := strings.Repeat("\x09", 1000) + "\x30\xeb\x07" + strings.Repeat("\x09\x31\xeb\x07", 4500) + "\x34"
	m := moduleOf(code)
	m.Funcs[1].Code = code
	for b.Loop() {
		if _, _, errno := Check(m); errno != api.OK {
			b.Fatal(errno)
		}
	}
}
