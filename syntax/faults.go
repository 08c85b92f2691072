package syntax

import (
	"slices"

	"glean/api"
	"glean/tables"
)

// usage is how a token is used that could be at fault.
type usage int

const (
	asDefined   usage = iota // the name of a function, in its item
	asParameter              // the name of a parameter, where it is listed
	asCalled
	asArray
	asVariable
	asMisplaced // a word where it may not stand
)

// use is a token that could be at fault.
type use struct {
	how      usage
	place    int
	name     string
	function int // the one around, or outside
	count    int // of a call its arguments; of a parameter those ahead of it
}

// naming is what the names of a source stand for.
type naming struct {
	functions []Function
	defined   tables.Table[string] // the names of the functions
	items     []int                // by their numbers: the first item that defines it
	others    tables.Table[string] // the names of arrays and variables
	firstUses []usage              // by their numbers: asArray or asVariable
}

// firstFault tells the first of the uses, which come in the order of the
// source, that is at fault: its place.
func firstFault(functions []Function, uses []use) (int, api.Errno) {
	n := naming{functions: functions}
	for i, f := range functions {
		if n.defined.Number(f.Name) == len(n.items) {
			n.items = append(n.items, i)
		}
	}
	for _, u := range uses {
		n.note(u)
	}
	for _, u := range uses {
		if errno := n.fault(u); errno != api.OK {
			return u.place, errno
		}
	}
	return 0, api.OK
}

// note notes the first use of a name as an array or a variable.
func (n *naming) note(u use) {
	if u.how != asArray && u.how != asVariable || n.isParameter(u) {
		return
	}
	if n.others.Number(u.name) == len(n.firstUses) {
		n.firstUses = append(n.firstUses, u.how)
	}
}

// isParameter tells whether the name is one of the function around.
func (n *naming) isParameter(u use) bool {
	return u.function != outside && slices.Contains(n.functions[u.function].Params, u.name)
}

// isArray tells whether the name, which is no function, is an array.
func (n *naming) isArray(u use) bool {
	number, found := n.others.Find(u.name)
	return found && n.firstUses[number] == asArray && !n.isParameter(u)
}

// fault tells what is wrong with a use.
func (n *naming) fault(u use) api.Errno {
	number, isFunction := n.defined.Find(u.name)
	switch u.how {
	case asDefined:
		return errnoIf(n.items[number] != u.function, api.ErrName)
	case asParameter:
		ahead := n.functions[u.function].Params[:u.count]
		if isFunction || slices.Contains(ahead, u.name) {
			return api.ErrName
		}
		return errnoIf(u.count >= api.MaxParams, api.ErrCount)
	case asCalled:
		if !isFunction {
			return api.ErrName
		}
		return errnoIf(u.count > len(n.functions[n.items[number]].Params), api.ErrCount)
	case asArray:
		return errnoIf(isFunction || !n.isArray(u), api.ErrName)
	case asVariable:
		return errnoIf(isFunction || n.isArray(u), api.ErrName)
	}
	return api.ErrPlace
}

func errnoIf(isSo bool, errno api.Errno) api.Errno {
	if isSo {
		return errno
	}
	return api.OK
}
