package machine

import (
	"slices"
	"strconv"

	"glean/api"
	"glean/values"
)

// array is an array: its elements, and beside them the order in which their
// keys came in.
type array struct {
	elements map[string]values.Value
	order    []string
}

func newArray() array {
	return array{elements: map[string]values.Value{}}
}

func (a *array) has(key string) bool {
	_, found := a.elements[key]
	return found
}

// takes tells whether a key is there or may come in.
func (a *array) takes(key string) bool {
	return a.has(key) || len(a.order) < api.MaxElements
}

// set gives a key, which the array takes, a value.
func (a *array) set(key string, v values.Value) {
	if !a.has(key) {
		a.order = append(a.order, key)
	}
	a.elements[key] = v
}

// lookUp tells the value of a key that the array takes.
func (a *array) lookUp(key string) values.Value {
	if !a.has(key) {
		a.set(key, values.Value{})
	}
	return a.elements[key]
}

func (a *array) remove(key string) {
	if !a.has(key) {
		return
	}
	delete(a.elements, key)
	at := slices.Index(a.order, key)
	a.order = slices.Delete(a.order, at, at+1)
}

func (a *array) empty() {
	clear(a.elements)
	a.order = nil
}

// fill lets an array have just these texts, as what was read, by their numbers.
func (a *array) fill(texts []string) {
	a.empty()
	for i, text := range texts {
		a.set(strconv.Itoa(i+1), values.Read(text))
	}
}

// keys tells the keys in their order, in a list of its own.
func (a *array) keys() []string {
	return slices.Clone(a.order)
}

// walk goes through the keys that an array had once.
type walk struct {
	array *array
	left  []string
}

// next tells the next key that is still in the array; those that are not when
// their turn comes are passed over for good.
func (w *walk) next() (string, bool) {
	for len(w.left) > 0 {
		key := w.left[0]
		w.left = w.left[1:]
		if w.array.has(key) {
			return key, true
		}
	}
	return "", false
}
