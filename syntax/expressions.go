package syntax

import "glean/tokens"

// expr reads a cond, or an assignment if that was a target.
func (p *parser) expr() *Expr {
	e := p.cond()
	if !e.isTarget() {
		return e
	}
	switch p.look() {
	case "=", "+=", "-=", "*=", "/=", "%=":
		return &Expr{Kind: p.pass().Kind, Parts: []*Expr{e, p.expr()}}
	}
	return e
}

// exprs reads one expr or more, with a comma between each two.
func (p *parser) exprs() []*Expr {
	list := []*Expr{p.expr()}
	for p.passed(",") {
		list = append(list, p.expr())
	}
	return list
}

func (p *parser) cond() *Expr {
	e := p.or()
	if !p.passed("?") {
		return e
	}
	second := p.expr()
	p.take(":")
	return &Expr{Kind: "?", Parts: []*Expr{e, second, p.expr()}}
}

// chain reads operands with operators of one level between them, which group
// from the left.
func (p *parser) chain(operand func() *Expr, isOne func(tokens.Kind) bool) *Expr {
	e := operand()
	for isOne(p.look()) {
		e = &Expr{Kind: p.pass().Kind, Parts: []*Expr{e, operand()}}
	}
	return e
}

func (p *parser) or() *Expr {
	return p.chain(p.and, func(k tokens.Kind) bool { return k == "||" })
}

func (p *parser) and() *Expr {
	return p.chain(p.member, func(k tokens.Kind) bool { return k == "&&" })
}

func (p *parser) member() *Expr {
	e := p.matched()
	for p.passed("in") {
		e = &Expr{Kind: "in", Parts: []*Expr{e}, Name: p.name(asArray)}
	}
	return e
}

func (p *parser) matched() *Expr {
	e := p.rel()
	for p.look() == "~" || p.look() == "!~" {
		e = &Expr{Kind: p.pass().Kind, Parts: []*Expr{e}, Text: p.take(tokens.Regex).Text}
	}
	return e
}

func (p *parser) rel() *Expr {
	e := p.cat()
	switch p.look() {
	case "<", "<=", "==", "!=", ">", ">=":
		return &Expr{Kind: p.pass().Kind, Parts: []*Expr{e, p.cat()}}
	}
	return e
}

func (p *parser) cat() *Expr {
	return p.chain(p.sum, func(k tokens.Kind) bool { return k == "." })
}

func (p *parser) sum() *Expr {
	return p.chain(p.term, func(k tokens.Kind) bool { return k == "+" || k == "-" })
}

func (p *parser) term() *Expr {
	return p.chain(p.unary, func(k tokens.Kind) bool { return k == "*" || k == "/" || k == "%" })
}

func (p *parser) unary() *Expr {
	switch p.look() {
	case "!", "-":
		return &Expr{Kind: p.pass().Kind, Parts: []*Expr{p.unary()}}
	}
	return p.primary()
}

func (p *parser) primary() *Expr {
	switch p.look() {
	case tokens.Numeral, tokens.Text, tokens.Regex, "NF", "NR", "getline", "draw":
		t := p.pass()
		return &Expr{Kind: t.Kind, Number: t.Number, Text: t.Text}
	case "(":
		e := p.inParentheses()
		e.isClosed = true
		return e
	case "$":
		return &Expr{Kind: p.pass().Kind, Parts: []*Expr{p.primary()}}
	case tokens.Name:
		return p.named()
	case "length", "substr", "index", "match", "span", "swap", "split":
		return p.worded()
	}
	p.refuse()
	return &Expr{Kind: tokens.Wrong}
}

// named reads a variable, an element of an array, or a call: what stands behind
// the name tells which.
func (p *parser) named() *Expr {
	e := &Expr{Kind: tokens.Name}
	switch p.tokens[p.at+1].Kind {
	case "(":
		e.Kind = "("
		p.call(e)
	case "[":
		e.Kind = "["
		e.Name = p.name(asArray)
		p.pass()
		e.Parts = append(e.Parts, p.expr())
		p.take("]")
	default:
		e.Name = p.name(asVariable)
	}
	return e
}

func (p *parser) call(e *Expr) {
	number := len(p.uses)
	e.Name = p.name(asCalled)
	p.pass()
	if p.look() != ")" {
		e.Parts = p.exprs()
	}
	p.take(")")
	p.uses[number].count = len(e.Parts)
}

// worded reads a call of what has a word for a name.
func (p *parser) worded() *Expr {
	e := &Expr{Kind: p.pass().Kind}
	p.take("(")
	if e.Kind == "swap" {
		e.Text = p.take(tokens.Regex).Text
		p.take(",")
	}
	e.Parts = append(e.Parts, p.expr())
	switch e.Kind {
	case "substr", "index", "swap":
		p.take(",")
		e.Parts = append(e.Parts, p.expr())
		if e.Kind == "substr" && p.passed(",") {
			e.Parts = append(e.Parts, p.expr())
		}
	case "split":
		p.take(",")
		e.Name = p.name(asArray)
		p.take(",")
		e.Text = p.take(tokens.Regex).Text
	case "match", "span":
		p.take(",")
		e.Text = p.take(tokens.Regex).Text
	}
	p.take(")")
	return e
}
