// Package tables numbers things: each has the number of those that came in
// ahead of it.
package tables

import "slices"

// Table is a list of keys without doubles. An empty one is ready for use.
type Table[K comparable] struct {
	keys    []K
	numbers map[K]int
}

// Number is the number of a key, which comes in if it is not there yet.
func (t *Table[K]) Number(key K) int {
	if number, found := t.numbers[key]; found {
		return number
	}
	if t.numbers == nil {
		t.numbers = make(map[K]int)
	}
	number := len(t.keys)
	t.numbers[key] = number
	t.keys = append(t.keys, key)
	return number
}

// Find is the number of a key, and whether it is there at all.
func (t *Table[K]) Find(key K) (int, bool) {
	number, found := t.numbers[key]
	return number, found
}

// Len is how many keys there are.
func (t *Table[K]) Len() int {
	return len(t.keys)
}

// Keys are the keys, in the order of their numbers.
func (t *Table[K]) Keys() []K {
	return slices.Clone(t.keys)
}
