package syntax

import "glean/tokens"

func (p *parser) block() *Stmt {
	p.take("{")
	s := &Stmt{Kind: "{"}
	for !p.isWrong && p.look() != "}" {
		s.Body = append(s.Body, p.stmt())
	}
	p.take("}")
	return s
}

func (p *parser) stmt() *Stmt {
	switch kind := p.look(); kind {
	case "{":
		return p.block()
	case "if":
		return p.choice()
	case "while":
		return p.while()
	case "for":
		return p.each()
	case "print":
		return p.print()
	case "exit", "return":
		return p.leaving(kind)
	case "delete":
		return p.deletion()
	case ";", "next", "break", "continue":
		return p.single(kind)
	}
	s := &Stmt{Kind: Value, Exprs: []*Expr{p.expr()}}
	p.take(";")
	return s
}

// choice reads an if. The else that comes next is its own, as one that is
// further out would have to come behind.
func (p *parser) choice() *Stmt {
	s := &Stmt{Kind: p.pass().Kind, Exprs: []*Expr{p.inParentheses()}}
	s.Body = append(s.Body, p.stmt())
	if p.passed("else") {
		s.Body = append(s.Body, p.stmt())
	}
	return s
}

func (p *parser) while() *Stmt {
	s := &Stmt{Kind: p.pass().Kind, Exprs: []*Expr{p.inParentheses()}}
	s.Body = append(s.Body, p.looped())
	return s
}

// each reads a for.
func (p *parser) each() *Stmt {
	s := &Stmt{Kind: p.pass().Kind}
	p.take("(")
	s.Name = p.name(asVariable)
	p.take("in")
	s.Array = p.name(asArray)
	p.take(")")
	s.Body = append(s.Body, p.looped())
	return s
}

// looped reads the statement of a loop.
func (p *parser) looped() *Stmt {
	p.loops++
	s := p.stmt()
	p.loops--
	return s
}

func (p *parser) print() *Stmt {
	s := &Stmt{Kind: p.pass().Kind}
	if p.look() != ";" {
		s.Exprs = p.exprs()
	}
	p.take(";")
	return s
}

// leaving reads an exit or a return.
func (p *parser) leaving(kind tokens.Kind) *Stmt {
	s, word := &Stmt{Kind: kind}, p.pass()
	if kind == "return" && p.function == outside {
		p.use(asMisplaced, word)
	}
	if p.look() != ";" {
		s.Exprs = append(s.Exprs, p.expr())
	}
	p.take(";")
	return s
}

func (p *parser) deletion() *Stmt {
	s := &Stmt{Kind: p.pass().Kind, Array: p.name(asArray)}
	if p.passed("[") {
		s.Exprs = append(s.Exprs, p.expr())
		p.take("]")
	}
	p.take(";")
	return s
}

// single reads a statement that is a word alone, or not even that.
func (p *parser) single(kind tokens.Kind) *Stmt {
	if kind != ";" {
		word := p.pass()
		if kind == "next" && !p.inRule || kind != "next" && p.loops == 0 {
			p.use(asMisplaced, word)
		}
	}
	p.take(";")
	return &Stmt{Kind: kind}
}

func (p *parser) inParentheses() *Expr {
	p.take("(")
	e := p.expr()
	p.take(")")
	return e
}
