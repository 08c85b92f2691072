// Package syntax reads a source by the grammar, and tells where it is at fault.
package syntax

import "glean/tokens"

// Program is a source that was read: the blocks of its BEGIN and END items, its
// rules and its functions, each in their order.
type Program struct {
	Begins, Ends []*Stmt
	Rules        []Rule
	Functions    []Function
}

// Rule is a block with a pattern of no expr, one, or two (a range).
type Rule struct {
	Pattern []*Expr
	Block   *Stmt
}

// Function is the item that defines a function.
type Function struct {
	Name   string
	Params []string
	Block  *Stmt
}

// Stmt is a statement. Its kind is the word or sign that it begins with, but of
// an expr that is a statement it is Value.
type Stmt struct {
	Kind  tokens.Kind
	Name  string  // the variable of for
	Array string  // of for and delete
	Exprs []*Expr // those that it has, in their order
	Body  []*Stmt // those of a block; of if, while and for the one, of if with else both
}

// Value is the kind of a statement that is an expr.
const Value tokens.Kind = "value"

// Expr is an expression. Its kind is the word or sign by which it is one; of an
// element of an array "[", of a call "(", of a variable tokens.Name. A "-" with
// one part is the unary one.
type Expr struct {
	Kind   tokens.Kind
	Number int     // of a numeral
	Text   string  // of a string; the pattern, if there is one
	Name   string  // of a variable, an array or a function
	Parts  []*Expr // those that it has, in their order

	isClosed bool // it stands in parentheses
}

// isTarget tells whether something may be assigned to this.
func (e *Expr) isTarget() bool {
	return !e.isClosed && (e.Kind == tokens.Name || e.Kind == "[" || e.Kind == "$")
}
