package machine

import (
	"strings"

	"glean/values"
)

// record is a record with its fields. Its lists are never written into: one
// that is changed is a new one.
type record struct {
	text   string
	fields []string
}

func newRecord(text string) record {
	return record{text: text, fields: values.Fields(text)}
}

// field tells a field, or the record itself, as what was read; nothing behind
// the last. n is not below 0.
func (r record) field(n int) values.Value {
	switch {
	case n == 0:
		return values.Read(r.text)
	case n <= len(r.fields):
		return values.Read(r.fields[n-1])
	}
	return values.Value{}
}

// with is the record with another text as its field n, which is from 0 to
// MaxFields. It may be too long.
func (r record) with(n int, text string) record {
	if n == 0 {
		return newRecord(text)
	}
	fields := make([]string, max(n, len(r.fields)))
	copy(fields, r.fields)
	fields[n-1] = text
	return record{text: strings.Join(fields, " "), fields: fields}
}
