package glean_test

// These tests hold Unpack against the document's words on a module's bytes,
// taken as a list of things that must stand one behind the other, for bytes
// that were spoilt in every way that comes to hand.

import (
	"math/rand/v2"
	"reflect"
	"testing"

	"glean/api"
	"glean/glean"
)

// told is a fault, thrown by where it is found.
type told struct {
	at int
	e  api.Errno
}

// wordsReader reads by the document's words; what is wrong is thrown.
type wordsReader struct {
	b       string
	at, end int
}

func (w *wordsReader) must(ok bool, at int, e api.Errno) {
	if !ok {
		panic(told{at, e})
	}
}

// number tries all lengths that a number may have.
func (w *wordsReader) number() int {
	for length := 1; length <= 5 && w.at+length <= w.end; length++ {
		value, right := 0, true
		for k := length - 1; k >= 0; k-- {
			b := int(w.b[w.at+k])
			right = right && (b >= 128) == (k < length-1)
			value = value*128 + b%128
		}
		if right && (length == 1 || w.b[w.at+length-1] != 0) {
			w.at += length
			return value
		}
	}
	panic(told{w.at, api.ErrNumber})
}

// limited is a number, from low to high.
func (w *wordsReader) limited(low, high int) int {
	at := w.at
	n := w.number()
	w.must(low <= n && n <= high, at, api.ErrLimit)
	return n
}

func (w *wordsReader) text(high int) string {
	at := w.at
	n := w.limited(0, high)
	w.must(n <= w.end-w.at, at, api.ErrSection)
	w.at += n
	return w.b[w.at-n : w.at]
}

func (w *wordsReader) content(m *api.Module, number int) {
	switch number {
	case 1:
		for range w.limited(0, 1000) {
			m.Texts = append(m.Texts, w.text(100))
		}
	case 2:
		for range w.limited(0, 1000) {
			p := w.text(50)
			w.must(isPattern(p), w.at-len(p), api.ErrPattern)
			m.Patterns = append(m.Patterns, p)
		}
	case 3:
		m.Globals = w.limited(0, 1000)
	case 4:
		m.Arrays = w.limited(0, 1000)
	case 5:
		for i := range w.limited(3, 1000) {
			f := api.Func{}
			if i < 3 {
				f.Params = w.limited(0, 0)
			} else {
				f.Params = w.limited(0, 8)
			}
			f.Locals = w.limited(f.Params, 16)
			f.Code = w.text(20000)
			m.Funcs = append(m.Funcs, f)
		}
	}
}

func byTheWords(b string) (m api.Module, at int, e api.Errno) {
	defer func() {
		switch f := recover().(type) {
		case nil:
		case told:
			m, at, e = api.Module{}, f.at, f.e
		default:
			panic(f)
		}
	}()
	w := &wordsReader{b: b}
	for i := range 3 {
		w.must(i < len(b) && b[i] == "GL\x01"[i], i, api.ErrHead)
	}
	w.at = 3
	for number := 1; number <= 5; number++ {
		w.must(w.at < len(b) && int(b[w.at]) == number, w.at, api.ErrSection)
		w.at++
		w.end = len(b)
		begin := w.at
		length := w.number()
		w.must(length <= len(b)-w.at, begin, api.ErrSection)
		w.end = w.at + length
		w.content(&m, number)
		w.must(w.at == w.end, w.at, api.ErrSection)
	}
	w.must(b == seal(b[:w.at]), w.at, api.ErrSum)
	return m, 0, api.OK
}

func randomModule(r *rand.Rand) api.Module {
	m := api.Module{Globals: r.IntN(300), Arrays: r.IntN(300)}
	for range r.IntN(4) {
		m.Texts = append(m.Texts, as(r.IntN(5)))
	}
	for range r.IntN(4) {
		m.Patterns = append(m.Patterns, []string{"", "a", "a*", "(a|b)", "[^c]+", as(50)}[r.IntN(6)])
	}
	for i := range 3 + r.IntN(4) {
		f := api.Func{Locals: r.IntN(17), Code: as(r.IntN(4))}
		if i >= 3 {
			f.Params = r.IntN(min(f.Locals, 8) + 1)
		}
		if r.IntN(8) == 0 {
			f.Code = as(200)
		}
		m.Funcs = append(m.Funcs, f)
	}
	return m
}

// spoil changes bytes in one way.
func spoil(r *rand.Rand, b string) string {
	if b == "" {
		return "G"
	}
	at := r.IntN(len(b))
	odd := string([]byte{[]byte("\x00\x01\x02\x03\x04\x05\x08\x09\x10\x11\x32\x33\x64\x65\x7f\x80\x81\xe8\xff*()")[r.IntN(22)]})
	switch r.IntN(6) {
	case 0:
		return b[:at] + odd + b[at+1:]
	case 1:
		return b[:at] + odd + b[at:]
	case 2:
		return b[:at] + b[at+1:]
	case 3:
		return b[:at]
	case 4:
		return b[:at] + string([]byte{b[at] + 1}) + b[at+1:]
	}
	return b[:at] + string([]byte{b[at] - 1}) + b[at+1:]
}

// holdAgainstTheWords asks Unpack and the words of the same bytes.
func holdAgainstTheWords(t *testing.T, b string) api.Errno {
	t.Helper()
	wantM, wantAt, wantE := byTheWords(b)
	m, at, e := glean.Unpack(b)
	if at != wantAt || e != wantE || !sameModule(m, wantM) {
		t.Fatalf("Unpack(%q) = %v, %d, %d, want %v, %d, %d", b, m, at, e, wantM, wantAt, wantE)
	}
	if e != api.OK {
		if !reflect.DeepEqual(m, api.Module{}) {
			t.Fatalf("Unpack(%q) = %v beside the error %d", b, m, e)
		}
		return e
	}
	if again, e := glean.Pack(m); again != b || e != api.OK {
		t.Fatalf("Pack of Unpack(%q) = %q, %d", b, again, e)
	}
	return e
}

func TestUnpackByTheWords(t *testing.T) {
	t.Parallel()
	r := rand.New(rand.NewPCG(3, 4))
	seen := map[api.Errno]int{}
	for range 40000 {
		m := randomModule(r)
		b, e := glean.Pack(m)
		if e != api.OK {
			t.Fatalf("Pack(%v): %d", m, e)
		}
		if back, at, e := glean.Unpack(b); !sameModule(back, m) || at != 0 || e != api.OK {
			t.Fatalf("Unpack of Pack(%v) = %v, %d, %d", m, back, at, e)
		}
		body := b[:len(b)-3]
		for range 1 + r.IntN(3) {
			body = spoil(r, body)
		}
		seen[holdAgainstTheWords(t, body)]++
		seen[holdAgainstTheWords(t, seal(body))]++
	}
	for _, e := range []api.Errno{api.OK, api.ErrPattern, api.ErrLimit, api.ErrHead, api.ErrNumber, api.ErrSection, api.ErrSum} {
		if seen[e] < 50 {
			t.Errorf("the error %d was met %d times: too few to say anything", e, seen[e])
		}
	}
}

func TestUnpackByTheWordsOfEveryByte(t *testing.T) {
	b, e := glean.Pack(api.Module{Texts: []string{"a", ""}, Patterns: []string{"b*"}, Globals: 130, Arrays: 2, Funcs: []api.Func{{Locals: 1}, {Code: "\x34"}, {}, {Params: 1, Locals: 2, Code: "\x02\x33"}}})
	if e != api.OK {
		t.Fatalf("Pack: %d", e)
	}
	body := b[:len(b)-3]
	for at := range len(body) {
		holdAgainstTheWords(t, b[:at])
		for other := range 256 {
			changed := body[:at] + string([]byte{byte(other)}) + body[at+1:]
			holdAgainstTheWords(t, changed)
			holdAgainstTheWords(t, seal(changed))
		}
	}
}
