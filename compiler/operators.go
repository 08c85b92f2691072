package compiler

import (
	"glean/api"
	"glean/syntax"
	"glean/tokens"
)

// calculating is the instruction of an operator, or of an assignment by it.
func calculating(sign tokens.Kind) byte {
	switch sign {
	case "+", "+=":
		return api.OpAdd
	case "-", "-=":
		return api.OpSub
	case "*", "*=":
		return api.OpMul
	case "/", "/=":
		return api.OpDiv
	}
	return api.OpMod
}

// comparing is the instruction of an operator that compares.
func comparing(sign tokens.Kind) byte {
	switch sign {
	case "<":
		return api.OpLt
	case "<=":
		return api.OpLe
	case "==":
		return api.OpEq
	case "!=":
		return api.OpNe
	case ">":
		return api.OpGt
	}
	return api.OpGe
}

func (c *compiler) arithmetic(e *syntax.Expr) kind {
	c.number(e.Parts[0])
	if len(e.Parts) == 1 {
		c.add(api.OpNeg)
		return num
	}
	c.number(e.Parts[1])
	c.add(calculating(e.Kind))
	return num
}

// matches compiles a match of the pattern, in the record if nothing else is
// there.
func (c *compiler) matches(e *syntax.Expr) kind {
	if e.Kind == tokens.Regex {
		c.record()
	} else {
		c.text(e.Parts[0])
	}
	c.add(api.OpFind, c.patterns.Number(e.Text))
	if e.Kind == "!~" {
		c.add(api.OpNot)
	} else {
		c.add(api.OpTest)
	}
	return bit
}

// either compiles a choice of one of two values.
func (c *compiler) either(e *syntax.Expr) kind {
	otherwise, out := c.newLabel(), c.newLabel()
	c.truth(e.Parts[0])
	c.addTo(api.OpJz, otherwise)
	second := c.value(e.Parts[1])
	c.addTo(api.OpJump, out)
	c.lay(otherwise)
	third := c.value(e.Parts[2])
	c.lay(out)
	if second == third {
		return second
	}
	return unknown
}

// junction compiles an || or an &&.
func (c *compiler) junction(e *syntax.Expr) kind {
	otherwise, out := c.newLabel(), c.newLabel()
	c.truth(e.Parts[0])
	c.addTo(api.OpJz, otherwise)
	if e.Kind == "||" {
		c.constant(1)
	} else {
		c.oneOrNone(e.Parts[1])
	}
	c.addTo(api.OpJump, out)
	c.lay(otherwise)
	if e.Kind == "||" {
		c.oneOrNone(e.Parts[1])
	} else {
		c.constant(0)
	}
	c.lay(out)
	return bit
}

// call compiles a call. Parameters without an argument are nothing.
func (c *compiler) call(e *syntax.Expr) kind {
	number, params := c.functionNumber(e.Name)
	for _, argument := range e.Parts {
		c.value(argument)
	}
	for range params - len(e.Parts) {
		c.add(api.OpNil)
	}
	c.add(api.OpCall, number)
	return unknown
}

// worded compiles what has a word for a name.
func (c *compiler) worded(e *syntax.Expr) kind {
	switch e.Kind {
	case "NF":
		c.add(api.OpNf)
	case "NR":
		c.add(api.OpNr)
	case "getline":
		c.add(api.OpGetline)
		return bit
	case "draw":
		c.add(api.OpDraw)
	case "length":
		c.text(e.Parts[0])
		c.add(api.OpLen)
	case "index":
		c.text(e.Parts[0])
		c.text(e.Parts[1])
		c.add(api.OpIndex)
	case "match":
		c.text(e.Parts[0])
		c.add(api.OpFind, c.patterns.Number(e.Text))
	case "span":
		c.text(e.Parts[0])
		c.add(api.OpSpan, c.patterns.Number(e.Text))
	case "split":
		c.text(e.Parts[0])
		c.add(api.OpSplit, c.arrays.Number(e.Name), c.patterns.Number(e.Text))
	case "swap":
		c.text(e.Parts[0])
		c.text(e.Parts[1])
		c.add(api.OpSwap, c.patterns.Number(e.Text))
		return txt
	case "substr":
		return c.partOf(e)
	}
	return num
}

// partOf compiles a substr. Without a length it goes as far as any can.
func (c *compiler) partOf(e *syntax.Expr) kind {
	c.text(e.Parts[0])
	c.number(e.Parts[1])
	if len(e.Parts) == 3 {
		c.number(e.Parts[2])
	} else {
		c.constant(api.MaxNumber)
	}
	c.add(api.OpPart)
	return txt
}
