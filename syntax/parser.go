package syntax

import (
	"glean/api"
	"glean/tokens"
)

// parser is on its way through the tokens of a source. As soon as one cannot
// stand where it stands, it finds nothing but wrong tokens, so that all that is
// under way comes to its end.
type parser struct {
	tokens   []tokens.Token
	at       int // the token that comes next
	isWrong  bool
	program  Program
	uses     []use
	function int // the number of the function around, or outside
	inRule   bool
	loops    int // how many are around
}

// outside is in the place of a function where none is around.
const outside = -1

// Read reads a source; with an error, the place of it.
func Read(source string) (Program, int, api.Errno) {
	p := parser{tokens: tokens.Read(source), function: outside}
	for !p.isWrong && p.look() != tokens.End {
		p.item()
	}
	if p.isWrong {
		return Program{}, p.tokens[p.at].Place, api.ErrSyntax
	}
	if place, errno := firstFault(p.program.Functions, p.uses); errno != api.OK {
		return Program{}, place, errno
	}
	return p.program, 0, api.OK
}

// look tells the kind of the token that comes next.
func (p *parser) look() tokens.Kind {
	if p.isWrong {
		return tokens.Wrong
	}
	return p.tokens[p.at].Kind
}

// pass goes on behind the token that comes next, and tells it.
func (p *parser) pass() tokens.Token {
	if p.isWrong {
		return tokens.Token{Kind: tokens.Wrong}
	}
	p.at++
	return p.tokens[p.at-1]
}

// refuse tells that the token that comes next cannot stand there.
func (p *parser) refuse() {
	p.isWrong = true
}

// take passes a token that must be of a kind.
func (p *parser) take(kind tokens.Kind) tokens.Token {
	if p.look() != kind {
		p.refuse()
	}
	return p.pass()
}

// passed passes a token if it is of a kind, and tells whether it was.
func (p *parser) passed(kind tokens.Kind) bool {
	if p.look() != kind {
		return false
	}
	p.pass()
	return true
}

// name takes a name that is used so.
func (p *parser) name(how usage) string {
	t := p.take(tokens.Name)
	p.use(how, t)
	return t.Text
}

// use notes how a token is used.
func (p *parser) use(how usage, t tokens.Token) {
	p.uses = append(p.uses, use{how: how, place: t.Place, name: t.Text, function: p.function})
}

// item reads an item of the program.
func (p *parser) item() {
	switch p.look() {
	case "BEGIN":
		p.pass()
		p.program.Begins = append(p.program.Begins, p.block())
	case "END":
		p.pass()
		p.program.Ends = append(p.program.Ends, p.block())
	case "function":
		p.definition()
	default:
		p.rule()
	}
}

func (p *parser) definition() {
	p.pass()
	p.function = len(p.program.Functions)
	f := Function{Name: p.name(asDefined)}
	p.take("(")
	if p.look() != ")" {
		f.Params = p.params()
	}
	p.take(")")
	f.Block = p.block()
	p.program.Functions = append(p.program.Functions, f)
	p.function = outside
}

func (p *parser) params() []string {
	list := []string{p.name(asParameter)}
	for p.passed(",") {
		name := p.name(asParameter)
		p.uses[len(p.uses)-1].count = len(list)
		list = append(list, name)
	}
	return list
}

func (p *parser) rule() {
	var r Rule
	if p.look() != "{" {
		r.Pattern = append(r.Pattern, p.expr())
		if p.passed(",") {
			r.Pattern = append(r.Pattern, p.expr())
		}
	}
	p.inRule = true
	r.Block = p.block()
	p.inRule = false
	p.program.Rules = append(p.program.Rules, r)
}
