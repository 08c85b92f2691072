package compiler

import (
	"glean/api"
	"glean/syntax"
	"glean/tokens"
)

// kind is what is known of a value that an expression leaves.
type kind int

const (
	bit kind = iota // the number 0 or 1
	num
	txt
	unknown
)

// number leaves the number of an expression.
func (c *compiler) number(e *syntax.Expr) {
	if k := c.value(e); k != num && k != bit {
		c.add(api.OpTonum)
	}
}

// text leaves the text of an expression.
func (c *compiler) text(e *syntax.Expr) {
	if c.value(e) != txt {
		c.add(api.OpTotext)
	}
}

// truth leaves a number that is not 0 just if the value holds.
func (c *compiler) truth(e *syntax.Expr) {
	if k := c.value(e); k != num && k != bit {
		c.add(api.OpTest)
	}
}

// oneOrNone leaves 1 if the value holds, else 0.
func (c *compiler) oneOrNone(e *syntax.Expr) {
	if c.value(e) != bit {
		c.add(api.OpTest)
	}
}

// constant leaves a number that is not below 0.
func (c *compiler) constant(n int) {
	c.add(api.OpNum, 2*n)
}

// record leaves the record's text.
func (c *compiler) record() {
	c.constant(0)
	c.add(api.OpField)
	c.add(api.OpTotext)
}

// value leaves the value of an expression, and tells what is known of it.
func (c *compiler) value(e *syntax.Expr) kind {
	switch e.Kind {
	case tokens.Numeral:
		c.constant(e.Number)
		return num
	case tokens.Text:
		c.add(api.OpStr, c.texts.Number(e.Text))
		return txt
	case tokens.Regex, "~", "!~":
		return c.matches(e)
	case tokens.Name, "[", "$":
		c.aim(e)
		c.fetch(e)
		return unknown
	case "(":
		return c.call(e)
	case "=", "+=", "-=", "*=", "/=", "%=":
		return c.assign(e)
	case "?":
		return c.either(e)
	case "||", "&&":
		return c.junction(e)
	case "!":
		c.truth(e.Parts[0])
		c.add(api.OpNot)
		return bit
	case "<", "<=", "==", "!=", ">", ">=":
		c.value(e.Parts[0])
		c.value(e.Parts[1])
		c.add(comparing(e.Kind))
		return bit
	case "in":
		c.text(e.Parts[0])
		c.add(api.OpAin, c.arrays.Number(e.Name))
		return bit
	case ".":
		c.text(e.Parts[0])
		c.text(e.Parts[1])
		c.add(api.OpCat)
		return txt
	case "+", "-", "*", "/", "%":
		return c.arithmetic(e)
	}
	return c.worded(e)
}
