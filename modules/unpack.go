package modules

import (
	"strings"

	"glean/api"
	"glean/numbers"
)

// reader goes through bytes that are to be a module's. Behind the first fault
// it finds nothing left to read, so nothing that comes later is told.
type reader struct {
	bytes string
	at    int // the next byte
	end   int // where what is being read must end: a content, or the bytes
	place int // of the first fault
	errno api.Errno
}

// Unpack reads a module out of its bytes; with an error, the place of the
// first fault.
func Unpack(b string) (api.Module, int, api.Errno) {
	if len(b) > api.MaxModule {
		return api.Module{}, 0, api.ErrLong
	}
	r := reader{bytes: b, end: len(b)}
	m := r.module()
	if r.errno != api.OK {
		return api.Module{}, r.place, r.errno
	}
	return m, 0, api.OK
}

func (r *reader) fail(place int, errno api.Errno) {
	if r.errno == api.OK {
		r.place, r.errno = place, errno
	}
	r.at, r.end = len(r.bytes), len(r.bytes)
}

func (r *reader) module() api.Module {
	var m api.Module
	for i := range len(head) {
		r.need(head[i], api.ErrHead)
	}
	r.section(textsSection, func() { m.Texts = r.texts(r.text) })
	r.section(patternsSection, func() { m.Patterns = r.texts(r.pattern) })
	r.section(globalsSection, func() { m.Globals = r.limited(0, api.MaxTable) })
	r.section(arraysSection, func() { m.Arrays = r.limited(0, api.MaxTable) })
	r.section(funcsSection, func() { m.Funcs = r.funcs() })
	if r.bytes[r.at:] != sum(r.bytes[:r.at]) {
		r.fail(r.at, api.ErrSum)
	}
	return m
}

// need passes over this byte; if another one stands there, or none, that is
// this fault.
func (r *reader) need(b byte, errno api.Errno) {
	if r.at == r.end || r.bytes[r.at] != b {
		r.fail(r.at, errno)
		return
	}
	r.at++
}

// section reads a section; content reads what belongs into it.
func (r *reader) section(number byte, content func()) {
	r.need(number, api.ErrSection)
	begin := r.at
	length := r.number()
	if length > int64(r.end-r.at) {
		r.fail(begin, api.ErrSection)
		return
	}
	r.end = r.at + int(length)
	content()
	if r.at < r.end {
		r.fail(r.at, api.ErrSection)
	}
	r.end = len(r.bytes)
}

// number reads a number in bytes. It is an int64 as an int may be too small
// for it.
func (r *reader) number() int64 {
	number, length := numbers.Read[int64](r.bytes[r.at:r.end])
	if length == 0 {
		r.fail(r.at, api.ErrNumber)
		return 0
	}
	r.at += length
	return number
}

// limited reads a number that a module's limits want to be from low to high.
func (r *reader) limited(low, high int) int {
	begin := r.at
	number := r.number()
	if number < int64(low) || number > int64(high) {
		r.fail(begin, api.ErrLimit)
		return 0
	}
	return int(number)
}

// bytesOf reads a length, of at most limit, and so many bytes. They are a
// copy, so that an answer does not hold on to all that was handed in.
func (r *reader) bytesOf(limit int) string {
	begin := r.at
	length := r.limited(0, limit)
	if length > r.end-r.at {
		r.fail(begin, api.ErrSection)
		return ""
	}
	r.at += length
	return strings.Clone(r.bytes[r.at-length : r.at])
}

func (r *reader) text() string {
	return r.bytesOf(api.MaxText)
}

func (r *reader) pattern() string {
	text := r.bytesOf(api.MaxPattern)
	if !isPattern(text) {
		r.fail(r.at-len(text), api.ErrPattern)
	}
	return text
}

// texts reads how many texts there are, and each of them by one.
func (r *reader) texts(one func() string) []string {
	var out []string
	for count := r.limited(0, api.MaxTable); len(out) < count && r.errno == api.OK; {
		out = append(out, one())
	}
	return out
}

func (r *reader) funcs() []api.Func {
	var out []api.Func
	for count := r.limited(Entries, api.MaxTable); len(out) < count && r.errno == api.OK; {
		out = append(out, r.function(len(out)))
	}
	return out
}

func (r *reader) function(number int) api.Func {
	params := r.limited(0, maxParams(number))
	locals := r.limited(params, api.MaxLocals)
	return api.Func{Params: params, Locals: locals, Code: r.bytesOf(api.MaxCode)}
}
