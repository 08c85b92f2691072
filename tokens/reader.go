package tokens

import (
	"strings"

	"glean/api"
	"glean/patterns"
)

// reader is on its way through a source.
type reader struct {
	source string
	at     int     // the byte that comes next
	from   int     // where the token begins that is being read
	text   []byte  // what it says, if it is a string
	tokens []Token // those that were read
}

// none stands for the byte that comes next where there is none.
const none = -1

func isBlank(b int) bool     { return b == ' ' || b == '\t' || b == '\n' }
func isInComment(b int) bool { return b != none && b != '\n' }
func isDigit(b int) bool     { return '0' <= b && b <= '9' }
func isLetter(b int) bool    { return 'a' <= b && b <= 'z' || 'A' <= b && b <= 'Z' || b == '_' }
func isInWord(b int) bool    { return isLetter(b) || isDigit(b) }

// look tells the byte that comes next.
func (r *reader) look() int {
	if r.at == len(r.source) {
		return none
	}
	return int(r.source[r.at])
}

// pass goes on behind the byte that comes next, and tells it.
func (r *reader) pass() int {
	b := r.look()
	if b != none {
		r.at++
	}
	return b
}

// passAll goes on behind all bytes of a kind that come next.
func (r *reader) passAll(isOne func(int) bool) {
	for isOne(r.look()) {
		r.at++
	}
}

// begin lets a token begin with the byte that comes next.
func (r *reader) begin() {
	r.from, r.text = r.at, nil
}

// mayDivide tells whether a / that comes next divides, as an operand may end
// with the token before; else it begins a regex.
func (r *reader) mayDivide() bool {
	if len(r.tokens) == 0 {
		return false
	}
	switch r.tokens[len(r.tokens)-1].Kind {
	case Numeral, Text, Regex, Name, ")", "]", "getline", "draw", "NF", "NR":
		return true
	}
	return false
}

// add adds the token that is being read.
func (r *reader) add(t Token) {
	t.Place = r.from
	r.tokens = append(r.tokens, t)
}

// end adds the last token, and tells all of them.
func (r *reader) end(kind Kind) []Token {
	r.add(Token{Kind: kind})
	return r.tokens
}

// addNumeral adds the digits that were passed; false, if they say too much.
func (r *reader) addNumeral() bool {
	number := 0
	for i := r.from; i < r.at; i++ {
		number = min(number*10+int(r.source[i]-'0'), api.MaxNumber+1)
	}
	if number > api.MaxNumber {
		return false
	}
	r.add(Token{Kind: Numeral, Number: number})
	return true
}

// addWord adds the word or name that was passed.
func (r *reader) addWord() {
	passed := r.source[r.from:r.at]
	if isWord(passed) {
		r.add(Token{Kind: Kind(passed)})
	} else {
		r.add(Token{Kind: Name, Text: passed})
	}
}

func isWord(text string) bool {
	switch text {
	case "BEGIN", "END", "function", "if", "else", "while", "for", "in", "print", "delete",
		"next", "exit", "return", "break", "continue", "length", "substr", "index", "match",
		"span", "swap", "split", "getline", "draw", "NF", "NR":
		return true
	}
	return false
}

// addText adds the string that was passed; false, if it says too much.
func (r *reader) addText() bool {
	if len(r.text) > api.MaxText {
		return false
	}
	r.add(Token{Kind: Text, Text: string(r.text)})
	return true
}

// addRegex adds the regex that was passed; false, if its pattern is none.
func (r *reader) addRegex() bool {
	pattern := r.source[r.from+1 : r.at-1]
	if _, _, errno := patterns.Read(pattern); errno != api.OK {
		return false
	}
	r.add(Token{Kind: Regex, Text: pattern})
	return true
}

// addSign adds the sign that comes next; false, if none does.
func (r *reader) addSign() bool {
	for _, sign := range signs {
		if strings.HasPrefix(r.source[r.at:], string(sign)) {
			r.at += len(sign)
			r.add(Token{Kind: sign})
			return true
		}
	}
	return false
}
