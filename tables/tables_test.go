package tables

import (
	"slices"
	"testing"
)

func TestKeysAreNumberedAsTheyComeIn(t *testing.T) {
	var table Table[string]
	for i, key := range []string{"b", "a", "", "b", "c", "", "a"} {
		want := []int{0, 1, 2, 0, 3, 2, 1}[i]
		if number := table.Number(key); number != want {
			t.Errorf("%q has the number %d, want %d", key, number, want)
		}
		if number, found := table.Find(key); !found || number != want {
			t.Errorf("%q is found as %d, %v", key, number, found)
		}
	}
	if keys := table.Keys(); !slices.Equal(keys, []string{"b", "a", "", "c"}) || table.Len() != 4 {
		t.Errorf("%q, %d", keys, table.Len())
	}
}

func TestWhatIsLookedForDoesNotComeIn(t *testing.T) {
	var table Table[int]
	for range 2 {
		if number, found := table.Find(7); found || number != 0 {
			t.Errorf("7 is found as %d", number)
		}
	}
	if table.Len() != 0 || len(table.Keys()) != 0 {
		t.Errorf("%d, %v", table.Len(), table.Keys())
	}
}

func TestKeysOfAnyComparableKind(t *testing.T) {
	type pair struct {
		name string
		rule int
	}
	var table Table[pair]
	for i, key := range []pair{{"x", 0}, {"x", 1}, {"y", 0}, {"x", 0}} {
		if number := table.Number(key); number != i%3 {
			t.Errorf("%v has the number %d", key, number)
		}
	}
	var arrays Table[[2]byte]
	if arrays.Number([2]byte{1, 2}) != 0 || arrays.Number([2]byte{2, 1}) != 1 || arrays.Number([2]byte{1, 2}) != 0 {
		t.Errorf("%v", arrays.Keys())
	}
}

func TestKeysAreANewList(t *testing.T) {
	var table Table[string]
	table.Number("a")
	table.Keys()[0] = "written"
	if keys := table.Keys(); keys[0] != "a" {
		t.Errorf("%q", keys)
	}
}
