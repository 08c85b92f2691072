package modules

import (
	"strings"
	"testing"

	"glean/api"
)

// slowSum is the document's sum, with nothing cut off on the way.
func slowSum(bytes string) string {
	total := uint64(1)
	for _, b := range []byte(bytes) {
		total = total*257 + uint64(b) + 1
		total %= 1000003
	}
	return string([]byte{byte(total % 256), byte(total / 256 % 256), byte(total / 65536)})
}

func TestSum(t *testing.T) {
	for _, c := range []struct{ bytes, want string }{
		{"", "\x01\x00\x00"},
		{"\x00", "\x02\x01\x00"},
		{"\xff", "\x01\x02\x00"},
		{"\x00\x00", "\x03\x03\x01"}, // 258 * 257 + 1
	} {
		if got := sum(c.bytes); got != c.want {
			t.Errorf("sum(%q) = %q, want %q", c.bytes, got, c.want)
		}
	}
	for _, unit := range []string{"\x00", "\x7f", "\x80", "\xff", "GL\x01"} {
		for _, times := range []int{1, 2, 3, 100, api.MaxModule / 3} {
			bytes := strings.Repeat(unit, times)
			if got, want := sum(bytes), slowSum(bytes); got != want {
				t.Errorf("sum of %q, %d times: %q, want %q", unit, times, got, want)
			}
		}
	}
}

func TestMaxParams(t *testing.T) {
	for function, want := range []int{0, 0, 0, api.MaxParams, api.MaxParams} {
		if got := maxParams(function); got != want {
			t.Errorf("maxParams(%d) = %d, want %d", function, got, want)
		}
	}
}

func BenchmarkPack(b *testing.B) {
	m := greatModule()
	for b.Loop() {
		Pack(m)
	}
}

func BenchmarkUnpack(b *testing.B) {
	packed, errno := Pack(greatModule())
	if errno != api.OK {
		b.Fatal(errno)
	}
	for b.Loop() {
		Unpack(packed)
	}
}

// greatModule is one with all tables full.
func greatModule() api.Module {
	m := api.Module{Globals: api.MaxTable, Arrays: api.MaxTable}
	for range api.MaxTable {
		m.Texts = append(m.Texts, "some text")
		m.Patterns = append(m.Patterns, "(a|b)*[c-d]+")
		m.Funcs = append(m.Funcs, api.Func{Locals: 3, Code: "\x34"})
	}
	return m
}
