// Package tokens reads the tokens of a source.
package tokens

// Kind is the kind of a token: of a word or a sign its own text, else one of
// these, none of which is a word.
type Kind string

const (
	End     Kind = "end"   // behind the last token, where the source ends
	Wrong   Kind = "wrong" // it can stand nowhere
	Numeral Kind = "numeral"
	Text    Kind = "text" // a string
	Regex   Kind = "regex"
	Name    Kind = "name"
)

// Token is a token and the place where it begins.
type Token struct {
	Kind   Kind
	Place  int
	Number int    // of a numeral
	Text   string // of a string, of a regex (its pattern), of a name
}

// The longer ones first, as the longest that is one is the token.
var signs = []Kind{
	"<=", "==", "!=", ">=", "!~", "&&", "||", "+=", "-=", "*=", "/=", "%=",
	"+", "-", "*", "/", "%", ".", "<", ">", "~", "!", "?", ":", "=", "(", ")", "[", "]", "{", "}", ",", ";", "$",
}

// Read reads the tokens of a source, up to its end or to the first that can
// stand nowhere. The last one is End or Wrong.
func Read(source string) []Token {
	r := reader{source: source}

between:
	r.passAll(isBlank)
	r.begin()
	switch b := r.look(); {
	case b == none:
		return r.end(End)
	case b == '#':
		goto comment
	case isDigit(b):
		goto numeral
	case isLetter(b):
		goto word
	case b == '"':
		goto text
	case b == '/' && !r.mayDivide():
		goto regex
	}
	goto sign

comment:
	r.passAll(isInComment)
	goto between

numeral:
	r.passAll(isDigit)
	if !r.addNumeral() {
		goto wrong
	}
	goto between

word:
	r.passAll(isInWord)
	r.addWord()
	goto between

text:
	if !r.passText() || !r.addText() {
		goto wrong
	}
	goto between

regex:
	if !r.passRegex() || !r.addRegex() {
		goto wrong
	}
	goto between

sign:
	if !r.addSign() {
		goto wrong
	}
	goto between

wrong:
	return r.end(Wrong)
}

// passText goes on behind a string, and collects what it says; false, if it is
// open or has another \ in it.
func (r *reader) passText() bool {
	r.pass()

plain:
	switch b := r.pass(); b {
	case none, '\n':
		return false
	case '"':
		return true
	case '\\':
		goto escaped
	default:
		r.text = append(r.text, byte(b))
	}
	goto plain

escaped:
	switch r.pass() {
	case 'n':
		r.text = append(r.text, '\n')
	case 't':
		r.text = append(r.text, '\t')
	case '"':
		r.text = append(r.text, '"')
	case '\\':
		r.text = append(r.text, '\\')
	default:
		return false
	}
	goto plain
}

// passRegex goes on behind a regex; false, if it is open.
func (r *reader) passRegex() bool {
	r.pass()

plain:
	switch r.pass() {
	case none, '\n':
		return false
	case '/':
		return true
	case '\\':
		goto escaped
	}
	goto plain

escaped:
	switch r.pass() {
	case none, '\n':
		return false
	}
	goto plain
}
