package glean_test

import (
	"math"
	"reflect"
	"strings"
	"testing"

	"glean/api"
	"glean/glean"
)

// plainModule has nothing but what a module must have.
func plainModule() api.Module {
	end := api.Func{Code: "\x34"}
	return api.Module{Funcs: []api.Func{end, end, end}}
}

// changed is the plain module with one thing done to it.
func changed(change func(*api.Module)) api.Module {
	m := plainModule()
	change(&m)
	return m
}

// num is a number in bytes.
func num(n int) string {
	if n < 128 {
		return string([]byte{byte(n)})
	}
	return string([]byte{byte(n%128 + 128)}) + num(n/128)
}

func section(number byte, content string) string {
	return string([]byte{number}) + num(len(content)) + content
}

// seal lays the sum down behind bytes.
func seal(b string) string {
	sum := 1
	for i := range len(b) {
		sum = (sum*257 + int(b[i]) + 1) % 1000003
	}
	return b + string([]byte{byte(sum), byte(sum >> 8), byte(sum >> 16)})
}

// bytesWith are the bytes of a module with these contents of its sections.
func bytesWith(texts, patterns, globals, arrays, funcs string) string {
	return seal("GL\x01" + section(1, texts) + section(2, patterns) + section(3, globals) + section(4, arrays) + section(5, funcs))
}

const plainFuncs = "\x03\x00\x00\x01\x34\x00\x00\x01\x34\x00\x00\x01\x34"

// sameModule tells whether two modules are the same; a list of nothing may be nil or not.
func sameModule(a, b api.Module) bool {
	for _, m := range []*api.Module{&a, &b} {
		if len(m.Texts) == 0 {
			m.Texts = nil
		}
		if len(m.Patterns) == 0 {
			m.Patterns = nil
		}
	}
	return reflect.DeepEqual(a, b)
}

// wantFault asks Unpack, which must tell this fault and nothing else.
func wantFault(t *testing.T, name, b string, at int, e api.Errno) {
	t.Helper()
	m, gotAt, gotE := glean.Unpack(b)
	if gotAt != at || gotE != e {
		t.Errorf("%s: Unpack(%.60q) = .., %d, %d, want %d, %d", name, b, gotAt, gotE, at, e)
	}
	if gotE != api.OK && !reflect.DeepEqual(m, api.Module{}) {
		t.Errorf("%s: Unpack(%.60q) = %.200v beside the error %d", name, b, m, gotE)
	}
}

// P7

func TestPackWritesTheDocumentsBytes(t *testing.T) {
	long := strings.Repeat("c", 200)
	for name, c := range map[string]struct {
		m    api.Module
		want string
	}{
		"plain":   {plainModule(), bytesWith("\x00", "\x00", "\x00", "\x00", plainFuncs)},
		"no code": {api.Module{Funcs: make([]api.Func, 3)}, bytesWith("\x00", "\x00", "\x00", "\x00", "\x03\x00\x00\x00\x00\x00\x00\x00\x00\x00")},
		"tables": {
			api.Module{Texts: []string{"", "a\xff", "b"}, Patterns: []string{"a*", "", "[b-c]"}, Globals: 127, Arrays: 128, Funcs: plainModule().Funcs},
			bytesWith("\x03\x00\x02a\xff\x01b", "\x03\x02a*\x00\x05[b-c]", "\x7f", "\x80\x01", plainFuncs),
		},
		"functions": {
			api.Module{Globals: 1000, Arrays: 129, Funcs: []api.Func{{Locals: 16}, {Code: long}, {Locals: 1, Code: "\x34"}, {Params: 2, Locals: 3, Code: "\x02\x33"}, {Params: 8, Locals: 8}}},
			bytesWith("\x00", "\x00", "\xe8\x07", "\x81\x01", "\x05\x00\x10\x00\x00\x00\xc8\x01"+long+"\x00\x01\x01\x34\x02\x03\x02\x02\x33\x08\x08\x00"),
		},
		"code is not looked at": {
			changed(func(m *api.Module) { m.Funcs[0].Code = "\xff\x80" }),
			bytesWith("\x00", "\x00", "\x00", "\x00", "\x03\x00\x00\x02\xff\x80\x00\x00\x01\x34\x00\x00\x01\x34"),
		},
	} {
		if b, e := glean.Pack(c.m); b != c.want || e != api.OK {
			t.Errorf("%s: Pack = %q, %d, want %q", name, b, e, c.want)
		}
		if m, at, e := glean.Unpack(c.want); !sameModule(m, c.m) || at != 0 || e != api.OK {
			t.Errorf("%s: Unpack = %v, %d, %d, want %v", name, m, at, e, c.m)
		}
	}
}

func TestPackWritesTheExample(t *testing.T) {
	const body = "GL\x01" + "\x01\x01\x00" + "\x02\x01\x00" + "\x03\x01\x00" + "\x04\x01\x00" + "\x05\x0d\x03" + "\x00\x00\x01\x34" + "\x00\x00\x01\x34" + "\x00\x00\x01\x34"
	b, e := glean.Pack(plainModule())
	if b != body+"\xff\x48\x0e" || e != api.OK {
		t.Errorf("Pack = %q, %d", b, e)
	}
	wantFault(t, "without its first byte", b[1:], 0, api.ErrHead)
}

// limit is a limit of a module: what changes the plain one so that it is just met, and just passed.
type limit struct {
	name        string
	met, passed func(*api.Module)
}

// ofNumber is the limit of a number that set lays down.
func ofNumber(name string, set func(*api.Module, int), met, passed int) limit {
	return limit{name, func(m *api.Module) { set(m, met) }, func(m *api.Module) { set(m, passed) }}
}

func limits() []limit {
	texts := func(m *api.Module, n int) { m.Texts = make([]string, n) }
	text := func(m *api.Module, n int) { m.Texts = []string{"a", as(n)} }
	patterns := func(m *api.Module, n int) { m.Patterns = make([]string, n) }
	pattern := func(m *api.Module, n int) { m.Patterns = []string{"a", as(n)} }
	globals := func(m *api.Module, n int) { m.Globals = n }
	arrays := func(m *api.Module, n int) { m.Arrays = n }
	funcs := func(m *api.Module, n int) { m.Funcs = make([]api.Func, n) }
	locals := func(m *api.Module, n int) { m.Funcs[2].Locals = n }
	code := func(m *api.Module, n int) { m.Funcs[1].Code = as(n) }
	params := func(locals int) func(*api.Module, int) {
		return func(m *api.Module, n int) {
			m.Funcs = append(m.Funcs, api.Func{}, api.Func{Params: n, Locals: locals})
		}
	}
	out := []limit{
		ofNumber("texts", texts, 1000, 1001), ofNumber("a text", text, 100, 101),
		ofNumber("patterns", patterns, 1000, 1001), ofNumber("a pattern", pattern, 50, 51),
		ofNumber("globals", globals, 1000, 1001), ofNumber("globals", globals, 0, -1), ofNumber("globals", globals, 1, math.MinInt), ofNumber("globals", globals, 999, math.MaxInt),
		ofNumber("arrays", arrays, 1000, 1001), ofNumber("arrays", arrays, 0, -1), ofNumber("arrays", arrays, 1, math.MinInt), ofNumber("arrays", arrays, 999, math.MaxInt),
		ofNumber("functions", funcs, 1000, 1001), ofNumber("functions", funcs, 3, 2), ofNumber("functions", funcs, 4, 0),
		ofNumber("locals", locals, 16, 17), ofNumber("locals", locals, 0, -1), ofNumber("locals", locals, 1, math.MaxInt), ofNumber("locals", locals, 1, math.MinInt),
		ofNumber("code", code, 20000, 20001),
		ofNumber("parameters", params(16), 8, 9), ofNumber("parameters", params(16), 0, -1), ofNumber("parameters", params(16), 1, math.MinInt), ofNumber("parameters", params(16), 1, math.MaxInt),
		ofNumber("parameters and locals", params(5), 5, 6), ofNumber("parameters and no locals", params(0), 0, 1),
	}
	for i := range 3 {
		own := func(m *api.Module, n int) { m.Funcs[i].Params, m.Funcs[i].Locals = n, 4 }
		out = append(out, ofNumber("parameters of a function that is not called", own, 0, 1))
	}
	return out
}

func TestPackKeepsTheLimits(t *testing.T) {
	for _, l := range limits() {
		m := changed(l.met)
		b, e := glean.Pack(m)
		if b == "" || e != api.OK {
			t.Errorf("%s, just met: %d bytes, %d", l.name, len(b), e)
		}
		if back, at, e := glean.Unpack(b); !sameModule(back, m) || at != 0 || e != api.OK {
			t.Errorf("%s, just met: Unpack: another module, or %d, %d", l.name, at, e)
		}
		if b, e := glean.Pack(changed(l.passed)); b != "" || e != api.ErrLimit {
			t.Errorf("%s, just passed: %d bytes, %d", l.name, len(b), e)
		}
	}
}

func TestPackRefusesWhatIsNoPattern(t *testing.T) {
	for _, p := range []string{"*", "(", "a)", "[]", "[b-a]", "\\"} {
		for _, list := range [][]string{{p}, {"a", p}, {p, "a", "b"}} {
			if b, e := glean.Pack(changed(func(m *api.Module) { m.Patterns = list })); b != "" || e != api.ErrLimit {
				t.Errorf("%q: %q, %d", list, b, e)
			}
			if b, e := glean.Pack(changed(func(m *api.Module) { m.Texts = list })); b == "" || e != api.OK {
				t.Errorf("%q as texts: %q, %d", list, b, e)
			}
		}
	}
}

// heavy is a module with so many bytes of code.
func heavy(code int) api.Module {
	return changed(func(m *api.Module) {
		m.Funcs[0].Code, m.Funcs[1].Code = as(api.MaxCode), as(code-api.MaxCode)
	})
}

func TestPackTellsNoMoreThanMaxModule(t *testing.T) {
	b, e := glean.Pack(heavy(39000))
	if e != api.OK {
		t.Fatalf("Pack: %d", e)
	}
	rest := api.MaxModule - len(b)
	m := heavy(39000 + rest)
	b, e = glean.Pack(m)
	if len(b) != api.MaxModule || e != api.OK {
		t.Errorf("just met: %d bytes, %d", len(b), e)
	}
	if back, at, e := glean.Unpack(b); !sameModule(back, m) || at != 0 || e != api.OK {
		t.Errorf("just met: Unpack: another module, or %d, %d", at, e)
	}
	wantFault(t, "a byte more", b+"\x00", 0, api.ErrLong)
	wantFault(t, "a byte more, ahead", "\x00"+b, 0, api.ErrLong)
	if b, e := glean.Pack(heavy(39001 + rest)); b != "" || e != api.ErrLimit {
		t.Errorf("just passed: %d bytes, %d", len(b), e)
	}
	whole := api.Module{Funcs: make([]api.Func, api.MaxTable)}
	for i := range whole.Funcs {
		whole.Funcs[i].Code = as(api.MaxCode)
	}
	if b, e := glean.Pack(whole); b != "" || e != api.ErrLimit {
		t.Errorf("far too much: %d bytes, %d", len(b), e)
	}
}

// P8

func TestUnpackTellsFaultsOfTheHead(t *testing.T) {
	whole := bytesWith("\x00", "\x00", "\x00", "\x00", plainFuncs)
	wantFault(t, "whole", whole, 0, api.OK)
	for i := range 3 {
		wantFault(t, "it ends", whole[:i], i, api.ErrHead)
		wantFault(t, "another", whole[:i]+"\x00"+whole[i+1:], i, api.ErrHead)
	}
	wantFault(t, "without its first", whole[1:], 0, api.ErrHead)
	wantFault(t, "without its second", whole[:1]+whole[2:], 1, api.ErrHead)
	wantFault(t, "the case", "gL\x01", 0, api.ErrHead)
	wantFault(t, "two are other ones", "Gl\x02", 1, api.ErrHead)
	wantFault(t, "another version", seal("GL\x02"), 2, api.ErrHead)
}

func TestUnpackTellsFaultsOfSections(t *testing.T) {
	contents := []string{"\x00", "\x00", "\x05", "\x06", plainFuncs}
	before := "GL\x01"
	for i, content := range contents {
		number := byte(i + 1)
		at := len(before)
		head := before + string([]byte{number})
		wantFault(t, "no number", before, at, api.ErrSection)
		for _, other := range []byte{0, number - 1, number + 1, number + 128} {
			wantFault(t, "another number", before+section(other, content)+"more bytes", at, api.ErrSection)
		}
		wantFault(t, "no length", head, at+1, api.ErrNumber)
		wantFault(t, "an open length", head+"\x80", at+1, api.ErrNumber)
		wantFault(t, "a length with a needless 0", head+"\x81\x00"+content, at+1, api.ErrNumber)
		wantFault(t, "a length of six bytes", head+"\x81\x80\x80\x80\x80\x01"+content, at+1, api.ErrNumber)
		wantFault(t, "a length one too great", head+num(len(content)+1)+content, at+1, api.ErrSection)
		wantFault(t, "a length far too great", head+"\xff\xff\xff\xff\x7f"+content, at+1, api.ErrSection)
		wantFault(t, "a length of 0", head+"\x00"+content, at+2, api.ErrNumber)
		wantFault(t, "a byte more", before+section(number, content+"\x00"), at+2+len(content), api.ErrSection)
		wantFault(t, "bytes more", before+section(number, content+"\x80\x80\x05"), at+2+len(content), api.ErrSection)
		before += section(number, content)
	}
	wantFault(t, "whole", seal(before), 0, api.OK)
	wantFault(t, "a sixth section", seal(before+section(6, "")), len(before), api.ErrSum)
	wantFault(t, "the last twice", seal(before+section(5, plainFuncs)), len(before), api.ErrSum)
}

func TestUnpackTakesALengthToTheVeryEnd(t *testing.T) {
	// The content's length is held against all bytes behind it, the sum's too.
	before := "GL\x01\x01\x01\x00\x02\x01\x00\x03\x01\x00\x04\x01\x00\x05"
	wantFault(t, "it takes the sum in", before+num(len(plainFuncs)+3)+plainFuncs+"sum", len(before)+1+len(plainFuncs), api.ErrSection)
	wantFault(t, "no sum is left", before+num(len(plainFuncs))+plainFuncs, len(before)+1+len(plainFuncs), api.ErrSum)
}

// fault is a content of a section that is not as it must be: the place in it, and the error.
type fault struct {
	content string
	at      int
	e       api.Errno
}

func wantFaults(t *testing.T, before string, number byte, faults []fault) {
	t.Helper()
	for _, f := range faults {
		head := before + string([]byte{number}) + num(len(f.content))
		b := head + f.content
		wantFault(t, "content", b, len(head)+f.at, f.e)
		wantFault(t, "content, more behind it", b+section(number+1, "\x01\x01a"), len(head)+f.at, f.e)
	}
}

// numberFaults are contents with which no number in bytes begins, behind a begin of the content.
func numberFaults(begin string) (out []fault) {
	for _, none := range []string{"", "\x80", "\xff\xff", "\x80\x80\x80\x80", "\x80\x00", "\x85\x00", "\xff\x80\x00", "\x80\x80\x80\x80\x00", "\x80\x80\x80\x80\x80", "\x80\x80\x80\x80\x80\x01", "\x81\x80\x80\x80\x80\x80\x01"} {
		out = append(out, fault{begin + none, len(begin), api.ErrNumber})
	}
	return out
}

func TestUnpackTellsFaultsOfTexts(t *testing.T) {
	faults := []fault{
		{"\xe9\x07", 0, api.ErrLimit}, {"\xff\xff\xff\xff\x7f", 0, api.ErrLimit}, {"\x80\x80\x80\x80\x10", 0, api.ErrLimit},
		{"\x01\x65", 1, api.ErrLimit}, {"\x01\x65" + as(101), 1, api.ErrLimit}, {"\x01\xff\xff\xff\xff\x7f", 1, api.ErrLimit}, {"\x02\x01a\x65", 3, api.ErrLimit},
		{"\x01\x01", 1, api.ErrSection}, {"\x01\x02a", 1, api.ErrSection}, {"\x01\x64" + as(99), 1, api.ErrSection}, {"\x02\x01a\x02b", 3, api.ErrSection},
		{"\x01\x01ab", 3, api.ErrSection}, {"\x00\x00", 1, api.ErrSection}, {"\x01\x00\x00", 2, api.ErrSection},
	}
	faults = append(faults, numberFaults("")...)
	faults = append(faults, numberFaults("\x01")...)
	faults = append(faults, numberFaults("\x03\x01a\x00")...)
	wantFaults(t, "GL\x01", 1, faults)
}

func TestUnpackTellsFaultsOfPatterns(t *testing.T) {
	faults := []fault{
		{"\xe9\x07", 0, api.ErrLimit}, {"\x01\x33" + as(51), 1, api.ErrLimit}, {"\x01\x33", 1, api.ErrLimit}, {"\x01\x64" + as(100), 1, api.ErrLimit}, {"\x01\x33" + strings.Repeat("*", 51), 1, api.ErrLimit}, {"\x02\x01a\x33", 3, api.ErrLimit},
		{"\x01\x32" + strings.Repeat("*", 49), 1, api.ErrSection}, {"\x01\x02*", 1, api.ErrSection}, {"\x01\x01aa", 3, api.ErrSection}, {"\x00\x01*", 1, api.ErrSection},
		{"\x01\x01*", 2, api.ErrPattern}, {"\x01\x03ab)", 2, api.ErrPattern}, {"\x01\x02(a", 2, api.ErrPattern}, {"\x02\x01a\x05[b-a]", 4, api.ErrPattern}, {"\x02\x01*\x33", 2, api.ErrPattern}, {"\x02\x01*\x01", 2, api.ErrPattern}, {"\x01\x01*more", 2, api.ErrPattern}, {"\x02\x00\x32" + as(49) + "\\", 3, api.ErrPattern},
	}
	faults = append(faults, numberFaults("")...)
	faults = append(faults, numberFaults("\x02\x02a*")...)
	wantFaults(t, "GL\x01\x01\x04\x01\x02tt", 2, faults)
}

func TestUnpackTellsFaultsOfGlobalsAndArrays(t *testing.T) {
	faults := []fault{
		{"\xe9\x07", 0, api.ErrLimit}, {"\xe9\x07\x00", 0, api.ErrLimit}, {"\xff\xff\xff\xff\x7f", 0, api.ErrLimit}, {"\x80\x80\x80\x80\x10", 0, api.ErrLimit},
		{"\xe8\x07\x00", 2, api.ErrSection}, {"\x00\x00", 1, api.ErrSection}, {"\x00\x80", 1, api.ErrSection},
	}
	faults = append(faults, numberFaults("")...)
	wantFaults(t, "GL\x01\x01\x01\x00\x02\x01\x00", 3, faults)
	wantFaults(t, "GL\x01\x01\x01\x00\x02\x01\x00\x03\x02\xe8\x07", 4, faults)
}

func TestUnpackTellsFaultsOfFunctions(t *testing.T) {
	entries := "\x00\x10\x00\x00\x01\x01\x34\x00\x00\x00" // functions 0, 1, 2
	five := "\x05" + entries + "\x02\x03\x01\x33"
	at := len(five)
	faults := []fault{
		{"\x00", 0, api.ErrLimit}, {"\x02" + entries, 0, api.ErrLimit}, {"\xe9\x07" + entries, 0, api.ErrLimit}, {"\xff\xff\xff\xff\x7f", 0, api.ErrLimit},
		{"\x03\x01\x01\x00", 1, api.ErrLimit}, {"\x03\x09\x11", 1, api.ErrLimit}, {"\x03\x00\x00\x00\x01\x01\x00", 4, api.ErrLimit}, {"\x03\x00\x00\x00\x00\x00\x00\x08\x08\x00", 7, api.ErrLimit},
		{"\x03\x00\x11\x00", 2, api.ErrLimit}, {"\x03\x00\x11", 2, api.ErrLimit}, {"\x03\x00\xff\xff\xff\xff\x7f", 2, api.ErrLimit},
		{"\x03\x00\x00\xa1\x9c\x01", 3, api.ErrLimit}, {"\x03\x00\x00\xff\xff\xff\xff\x7f", 3, api.ErrLimit}, {"\x03\x00\x00\xa1\x9c\x01" + as(20001), 3, api.ErrLimit},
		{"\x03\x00\x00\xa0\x9c\x01" + as(19999), 3, api.ErrSection}, {"\x03\x00\x00\x01", 3, api.ErrSection}, {"\x03\x00\x00\x02a", 3, api.ErrSection},
		{"\x03" + entries + "\x00", 1 + len(entries), api.ErrSection},
		{five + "\x09\x10\x00", at, api.ErrLimit}, {five + "\x09\x08\x00", at, api.ErrLimit}, {five + "\x80\x01", at, api.ErrLimit}, {five + "\xff\xff\xff\xff\x7f\x11", at, api.ErrLimit},
		{five + "\x08\x07\x00", at + 1, api.ErrLimit}, {five + "\x01\x00\x00", at + 1, api.ErrLimit}, {five + "\x08\x11\x00", at + 1, api.ErrLimit}, {five + "\x03\x02\xff\xff\xff\xff\x7f", at + 1, api.ErrLimit},
		{five + "\x08\x10\x01", at + 2, api.ErrSection}, {five + "\x08\x10\xa1\x9c\x01", at + 2, api.ErrLimit}, {five + "\x08\x08\x00\x00", at + 3, api.ErrSection},
	}
	for _, begin := range []string{"", "\x03", "\x03\x00", "\x03\x00\x00", "\x03\x00\x00\x00", five, five + "\x04", five + "\x04\x04"} {
		faults = append(faults, numberFaults(begin)...)
	}
	before := "GL\x01\x01\x01\x00\x02\x01\x00\x03\x01\x00\x04\x01\x00"
	wantFaults(t, before, 5, faults)
	wantFault(t, "whole", seal(before+section(5, five+"\x08\x08\x00")), 0, api.OK)
}

func TestUnpackTellsAnotherSum(t *testing.T) {
	whole := bytesWith("\x01\x02ab", "\x01\x02a*", "\x01", "\x02", plainFuncs)
	end := len(whole) - 3
	for cut := range 3 {
		wantFault(t, "a part of it", whole[:end+cut], end, api.ErrSum)
		for _, change := range []byte{1, 16, 128, 255} {
			b := []byte(whole)
			b[end+cut] ^= change
			wantFault(t, "another byte", string(b), end, api.ErrSum)
		}
	}
	wantFault(t, "a byte more", whole+"\x00", end, api.ErrSum)
	wantFault(t, "the sum twice", whole+whole[end:], end, api.ErrSum)
	wantFault(t, "another text", strings.Replace(whole, "ab", "ac", 1), end, api.ErrSum)
	wantFault(t, "bytes that changed places", strings.Replace(whole, "ab", "ba", 1), end, api.ErrSum)
	wantFault(t, "another code", whole[:end-1]+"\x33"+whole[end:], end, api.ErrSum)
}

func TestUnpackTellsTooManyBytesFirst(t *testing.T) {
	for _, begin := range []string{"", "G", "GL\x01", "GL\x01\x01\x02\xe9\x07"} {
		wantFault(t, "long", begin+strings.Repeat("x", api.MaxModule+1-len(begin)), 0, api.ErrLong)
	}
	wantFault(t, "very long", strings.Repeat("G", 10000000), 0, api.ErrLong)
	wantFault(t, "just not too long", strings.Repeat("G", api.MaxModule), 1, api.ErrHead)
}
