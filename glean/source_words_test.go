package glean_test

// A second reader of sources, which goes by the document's words: tokens by
// expressions of Go's library, the grammar as it is written there, with all ways
// through it followed at once, and names by what is said of them.

import (
	"fmt"
	"regexp"
	"slices"
	"strconv"
	"strings"
	"sync"

	"glean/api"
)

const docWords = "BEGIN END function if else while for in print delete next exit return break continue length substr index match span swap split getline draw NF NR"

const docSigns = "+ - * / % . < <= == != > >= ~ !~ ! && || ? : = += -= *= /= %= ( ) [ ] { } , ; $"

const docGrammar = `
    program  = { item }
    item     = "BEGIN" block | "END" block | "function" name "(" [ name { "," name } ] ")" block | expr [ "," expr ] block | block
    block    = "{" { stmt } "}"
    stmt     = block | ";" | "if" "(" expr ")" stmt [ "else" stmt ] | "while" "(" expr ")" stmt
             | "for" "(" name "in" name ")" stmt | "print" [ expr { "," expr } ] ";" | "delete" name [ "[" expr "]" ] ";"
             | "next" ";" | "exit" [ expr ] ";" | "return" [ expr ] ";" | "break" ";" | "continue" ";" | expr ";"
    expr     = cond | target asgn expr
    asgn     = "=" | "+=" | "-=" | "*=" | "/=" | "%="
    target   = name | name "[" expr "]" | "$" primary
    cond     = or [ "?" expr ":" expr ]
    or       = and { "||" and }
    and      = member { "&&" member }
    member   = matched { "in" name }
    matched  = rel { ( "~" | "!~" ) regex }
    rel      = cat [ ( "<" | "<=" | "==" | "!=" | ">" | ">=" ) cat ]
    cat      = sum { "." sum }
    sum      = term { ( "+" | "-" ) term }
    term     = unary { ( "*" | "/" | "%" ) unary }
    unary    = ( "!" | "-" ) unary | primary
    primary  = numeral | string | regex | "(" expr ")" | target | "NF" | "NR" | "getline" | "draw"
             | name "(" [ expr { "," expr } ] ")"
             | "length" "(" expr ")" | "substr" "(" expr "," expr [ "," expr ] ")" | "index" "(" expr "," expr ")"
             | "match" "(" expr "," regex ")" | "span" "(" expr "," regex ")" | "swap" "(" regex "," expr "," expr ")"
             | "split" "(" expr "," name "," regex ")"
`

// wordsToken is a token: its kind is numeral, string, regex, name, end, wrong,
// or what a word or a sign is written as.
type wordsToken struct {
	kind, text string
	place      int
}

var (
	aheadOfTokens = regexp.MustCompile(`^(?:[ \t\n]|#[^\n]*)*`)
	tokenForms    = []struct {
		kind string
		form *regexp.Regexp
	}{
		{"numeral", regexp.MustCompile(`^[0-9]+`)},
		{"string", regexp.MustCompile(`^"(?:[^"\\\n]|\\[nt"\\])*"`)},
		{"name", regexp.MustCompile(`^[A-Za-z_][A-Za-z0-9_]*`)},
		{"regex", regexp.MustCompile(`^/(?:[^/\\\n]|\\[^\n])*/`)},
	}
	stringBytes = strings.NewReplacer(`\n`, "\n", `\t`, "\t", `\"`, `"`, `\\`, `\`)
)

// tokensByTheWords reads all tokens up to the first that is wrong.
func tokensByTheWords(source string) (out []wordsToken) {
	at := 0
	for {
		at += len(aheadOfTokens.FindString(source[at:]))
		t := wordsToken{"wrong", "", at}
		before := "begin"
		if len(out) > 0 {
			before = out[len(out)-1].kind
		}
		t.kind, t.text = tokenByTheWords(source[at:], before)
		out = append(out, t)
		if t.kind == "end" || t.kind == "wrong" {
			return out
		}
		at += len(t.text)
		out[len(out)-1].text = says(t)
	}
}

// tokenByTheWords is the token with which a rest of a source begins, as it is
// written.
func tokenByTheWords(rest, before string) (kind, text string) {
	if rest == "" {
		return "end", ""
	}
	divides := slices.Contains(strings.Fields("numeral string regex name ) ] getline draw NF NR"), before)
	for _, f := range tokenForms {
		text := f.form.FindString(rest)
		if text == "" || f.kind == "regex" && divides {
			continue
		}
		if f.kind == "name" && slices.Contains(strings.Fields(docWords), text) {
			return text, text
		}
		if !mayBeSaid(f.kind, text) {
			return "wrong", ""
		}
		return f.kind, text
	}
	for _, length := range []int{2, 1} {
		if len(rest) < length || rest[0] == '/' && !divides {
			continue
		}
		if sign := rest[:length]; slices.Contains(strings.Fields(docSigns), sign) {
			return sign, sign
		}
	}
	return "wrong", ""
}

// mayBeSaid tells whether a token says no more than it may.
func mayBeSaid(kind, text string) bool {
	switch kind {
	case "numeral":
		digits := strings.TrimLeft(text, "0")
		return len(digits) < 10 || digits == "1000000000"
	case "string":
		return len(says(wordsToken{kind: kind, text: text})) <= 100
	case "regex":
		return len(text) <= 52 && isPattern(text[1:len(text)-1])
	}
	return true
}

// says is what a token that is written so says.
func says(t wordsToken) string {
	switch t.kind {
	case "string":
		return stringBytes.Replace(t.text[1 : len(t.text)-1])
	case "regex":
		return t.text[1 : len(t.text)-1]
	}
	return t.text
}

// ebnf is a part of a grammar: a sequence, a choice, a loop, something that may
// be left out, a rule by its name, or a kind of tokens.
type ebnf struct {
	form  string // sequence choice loop option rule token
	name  string
	parts []*ebnf
}

// readGrammar reads rules that are written as the document writes them.
func readGrammar(text string) map[string]*ebnf {
	rules := map[string]*ebnf{}
	fields := strings.Fields(text)
	var begins []int
	for i, f := range fields {
		if f == "=" {
			begins = append(begins, i-1)
		}
	}
	begins = append(begins, len(fields))
	for i := range len(begins) - 1 {
		body := fields[begins[i]+2 : begins[i+1]]
		rules[fields[begins[i]]] = readChoice(&body, rules)
	}
	for _, r := range rules {
		r.tellTokens(rules)
	}
	return rules
}

func readChoice(words *[]string, rules map[string]*ebnf) *ebnf {
	choice := &ebnf{form: "choice", parts: []*ebnf{{form: "sequence"}}}
	for len(*words) > 0 {
		word := (*words)[0]
		if word == "}" || word == "]" || word == ")" {
			break
		}
		*words = (*words)[1:]
		last := choice.parts[len(choice.parts)-1]
		switch word {
		case "|":
			choice.parts = append(choice.parts, &ebnf{form: "sequence"})
		case "{", "[", "(":
			inner := readChoice(words, rules)
			*words = (*words)[1:]
			form := map[string]string{"{": "loop", "[": "option", "(": "sequence"}[word]
			last.parts = append(last.parts, &ebnf{form: form, parts: []*ebnf{inner}})
		default:
			last.parts = append(last.parts, &ebnf{form: "rule", name: word})
		}
	}
	return choice
}

// tellTokens tells the kinds of tokens from the names of rules.
func (g *ebnf) tellTokens(rules map[string]*ebnf) {
	for _, p := range g.parts {
		p.tellTokens(rules)
	}
	if g.form == "rule" && rules[g.name] == nil {
		g.form = "token"
		if strings.HasPrefix(g.name, `"`) {
			g.name, _ = strconv.Unquote(g.name)
		}
	}
}

// production is a rule without loops, options and choices: parts of 0 or more
// are other rules, those below 0 are kinds of tokens.
type production struct {
	rule  int
	parts []int
}

// flatGrammar is a grammar of such rules. Rule 0 is the program.
type flatGrammar struct {
	all    []production
	of     [][]int // by rule: its productions
	empty  []bool  // by rule: it may have no tokens
	number map[string]int
}

// flatten writes rules out, with new ones for what is in braces.
func flatten(rules map[string]*ebnf) *flatGrammar {
	f := &flatGrammar{number: map[string]int{"program": 0}}
	for name, g := range rules {
		f.choices(f.rule(name), g)
	}
	return f
}

// rule is the number of a rule, of a token one below 0.
func (f *flatGrammar) rule(name string) int {
	if _, found := f.number[name]; !found {
		f.number[name] = len(f.number)
	}
	return f.number[name]
}

func (f *flatGrammar) add(rule int, parts []int) {
	for len(f.of) <= rule {
		f.of, f.empty = append(f.of, nil), append(f.empty, false)
	}
	f.of[rule] = append(f.of[rule], len(f.all))
	f.all = append(f.all, production{rule, parts})
	f.empty[rule] = f.empty[rule] || len(parts) == 0
}

func (f *flatGrammar) choices(rule int, g *ebnf) {
	for _, p := range g.parts {
		f.add(rule, f.flat(p))
	}
}

func (f *flatGrammar) flat(g *ebnf) (list []int) {
	switch g.form {
	case "rule":
		return []int{f.rule(g.name)}
	case "token":
		return []int{-1 - f.rule("token "+g.name)}
	case "sequence":
		for _, p := range g.parts {
			list = append(list, f.flat(p)...)
		}
		return list
	}
	again := f.rule("new " + strconv.Itoa(len(f.number)))
	switch g.form {
	case "choice":
		f.choices(again, g)
	case "option":
		f.add(again, nil)
		f.add(again, f.flat(g.parts[0]))
	case "loop":
		f.add(again, nil)
		f.add(again, append([]int{again}, f.flat(g.parts[0])...))
	}
	return []int{again}
}

// ruleWay is a production on its way: so far it went, and there it began.
type ruleWay struct {
	production, dot, from int
}

func (w ruleWay) on() ruleWay { return ruleWay{w.production, w.dot + 1, w.from} }

// ahead is what comes next on a way; false at its end.
func (f *flatGrammar) ahead(w ruleWay) (int, bool) {
	parts := f.all[w.production].parts
	if w.dot == len(parts) {
		return 0, false
	}
	return parts[w.dot], true
}

// waySet are the ways that lead to a token, each just once. Sets of one source
// share a table of which set a way was in at last: that is much faster than a
// table each.
type waySet struct {
	list   []ruleWay
	number int
	lastIn *[]int32
}

const (
	mostDots = 16
	mostFrom = 1024
)

func (s *waySet) add(w ruleWay) {
	at := (w.production*mostDots+w.dot)*mostFrom + w.from
	if at >= len(*s.lastIn) {
		*s.lastIn = append(*s.lastIn, make([]int32, at+1-len(*s.lastIn))...)
	}
	if (*s.lastIn)[at] != int32(s.number) {
		(*s.lastIn)[at] = int32(s.number)
		s.list = append(s.list, w)
	}
}

// wayTables keeps tables for the next source, with the number of the last set.
var wayTables sync.Pool

type wayTable struct {
	lastIn []int32
	number int
}

// firstThatCannotStand follows all ways through the grammar at once: the number
// of the first token that none takes, or -1 if all of them are a program.
func (f *flatGrammar) firstThatCannotStand(list []wordsToken) int {
	table, _ := wayTables.Get().(*wayTable)
	if table == nil {
		table = &wayTable{}
	}
	defer wayTables.Put(table)
	newSet := func() *waySet {
		table.number++
		return &waySet{number: table.number, lastIn: &table.lastIn}
	}
	sets := []*waySet{newSet()}
	for _, p := range f.of[0] {
		sets[0].add(ruleWay{p, 0, 0})
	}
	for at, t := range list {
		now := sets[at]
		f.close(sets, now, at)
		if t.kind == "end" {
			if slices.ContainsFunc(now.list, func(w ruleWay) bool {
				_, isOn := f.ahead(w)
				return !isOn && w.from == 0 && f.all[w.production].rule == 0
			}) {
				return -1
			}
			return at
		}
		next := newSet()
		number, found := f.number["token "+t.kind]
		for _, w := range now.list {
			if ahead, isOn := f.ahead(w); found && isOn && ahead == -1-number {
				next.add(w.on())
			}
		}
		if len(next.list) == 0 {
			return at
		}
		sets = append(sets, next)
	}
	return -1
}

// close adds the ways that begin at a token or go on there.
func (f *flatGrammar) close(sets []*waySet, now *waySet, at int) {
	for k := 0; k < len(now.list); k++ {
		w := now.list[k]
		ahead, isOn := f.ahead(w)
		switch {
		case !isOn:
			for _, from := range sets[w.from].list {
				if a, isOn := f.ahead(from); isOn && a == f.all[w.production].rule {
					now.add(from.on())
				}
			}
		case ahead >= 0:
			for _, p := range f.of[ahead] {
				now.add(ruleWay{p, 0, at})
			}
			if f.empty[ahead] {
				now.add(w.on())
			}
		}
	}
}

// node is a rule in a tree, or a token.
type node struct {
	rule  string
	token wordsToken
	parts []*node
}

// is tells whether the part of a number is a token of a kind.
func (n *node) is(number int, kind string) bool {
	return number < len(n.parts) && n.parts[number].rule == "" && n.parts[number].token.kind == kind
}

// of are the parts that are of a rule.
func (n *node) of(rule string) (out []*node) {
	for _, p := range n.parts {
		if p.rule == rule {
			out = append(out, p)
		}
	}
	return out
}

// treeMaker makes the tree of a source that follows the grammar. Of several
// choices the one that takes most is the one; loops and options take what they
// can: so an else is the nearest if's.
type treeMaker struct {
	rules map[string]*ebnf
	list  []wordsToken
	known map[string]madeNode // by rule and place
}

type madeNode struct {
	n   *node
	end int
}

func (m *treeMaker) make(rule string, at int) (*node, int) {
	key := rule + " " + strconv.Itoa(at)
	if known, found := m.known[key]; found {
		return known.n, known.end
	}
	n := &node{rule: rule}
	parts, end := m.match(m.rules[rule], at)
	n.parts = parts
	m.known[key] = madeNode{n, end}
	return n, end
}

// match tells the parts that a piece of the grammar takes from a token on, and
// where it ends: -1 if it does not fit.
func (m *treeMaker) match(g *ebnf, at int) ([]*node, int) {
	switch g.form {
	case "token":
		if m.list[at].kind != g.name {
			return nil, -1
		}
		return []*node{{token: m.list[at]}}, at + 1
	case "rule":
		n, end := m.make(g.name, at)
		return []*node{n}, end
	case "choice":
		var best []*node
		most := -1
		for _, p := range g.parts {
			if parts, end := m.match(p, at); end > most {
				best, most = parts, end
			}
		}
		return best, most
	case "option":
		if parts, end := m.match(g.parts[0], at); end >= 0 {
			return parts, end
		}
		return nil, at
	case "loop":
		var all []*node
		for {
			parts, end := m.match(g.parts[0], at)
			if end < 0 {
				return all, at
			}
			all, at = append(all, parts...), end
		}
	}
	var all []*node
	for _, p := range g.parts {
		parts, end := m.match(p, at)
		if end < 0 {
			return nil, -1
		}
		all, at = append(all, parts...), end
	}
	return all, at
}

var (
	docRules = readGrammar(docGrammar)
	docFlat  = flatten(docRules)
)

// occurrence is a token that could be at fault: how it is used, and what is
// around it.
type occurrence struct {
	wordsToken
	how       string // defined parameter called array variable; or a word
	item      *node  // the function's item around it, or nil
	ahead     []string
	given     int
	misplaced bool
}

// occurrencesOf lists them in the order of the source.
type occurrencesOf struct {
	list   []occurrence
	item   *node
	inRule bool
	loops  int
}

func (o *occurrencesOf) add(n *node, how string) *occurrence {
	o.list = append(o.list, occurrence{wordsToken: n.token, how: how, item: o.item})
	return &o.list[len(o.list)-1]
}

func (o *occurrencesOf) walk(n *node) {
	switch {
	case n.rule == "item":
		o.walkItem(n)
		return
	case n.rule == "stmt" && (n.is(0, "while") || n.is(0, "for")):
		if n.is(0, "for") {
			o.add(n.parts[2], "variable")
			o.add(n.parts[4], "array")
		} else {
			o.walk(n.parts[2])
		}
		o.loops++
		o.walk(n.parts[len(n.parts)-1])
		o.loops--
		return
	case n.rule == "stmt" && n.is(0, "next"):
		o.add(n.parts[0], "word").misplaced = !o.inRule
	case n.rule == "stmt" && n.is(0, "return"):
		o.add(n.parts[0], "word").misplaced = o.item == nil
	case n.rule == "stmt" && (n.is(0, "break") || n.is(0, "continue")):
		o.add(n.parts[0], "word").misplaced = o.loops == 0
	}
	for i, p := range n.parts {
		if p.rule != "" {
			o.walk(p)
			continue
		}
		if p.token.kind != "name" {
			continue
		}
		how := "variable"
		switch {
		case n.is(i+1, "("):
			how = "called"
		case n.is(i+1, "["), n.rule == "member", i == 1 && n.is(0, "delete"), n.is(0, "split"):
			how = "array"
		}
		o.add(p, how).given = len(n.of("expr"))
	}
}

func (o *occurrencesOf) walkItem(n *node) {
	if n.is(0, "function") {
		o.item = n
	}
	var ahead []string
	for i, p := range n.parts {
		switch {
		case p.rule == "block":
			o.inRule = n.parts[0].rule != ""
			o.walk(p)
		case p.rule != "":
			o.walk(p)
		case p.token.kind == "name" && i == 1:
			o.add(p, "defined")
		case p.token.kind == "name":
			o.add(p, "parameter").ahead = slices.Clone(ahead)
			ahead = append(ahead, p.token.text)
		}
	}
	o.item, o.inRule = nil, false
}

// paramsOf are the parameters that a function's item lists.
func paramsOf(item *node) (out []string) {
	if item == nil {
		return nil
	}
	for _, p := range item.parts[2:] {
		if p.rule == "" && p.token.kind == "name" {
			out = append(out, p.token.text)
		}
	}
	return out
}

// faultByTheWords tells the first token that is at fault.
func faultByTheWords(program *node) (int, api.Errno) {
	var o occurrencesOf
	o.walk(program)
	defines := map[string]*node{}
	for _, one := range o.list {
		if one.how == "defined" && defines[one.text] == nil {
			defines[one.text] = one.item
		}
	}
	firstUse := map[string]string{}
	for _, one := range o.list {
		if (one.how == "array" || one.how == "variable") && !slices.Contains(paramsOf(one.item), one.text) && firstUse[one.text] == "" {
			firstUse[one.text] = one.how
		}
	}
	for _, one := range o.list {
		item := defines[one.text]
		isOwn := slices.Contains(paramsOf(one.item), one.text)
		isArray := item == nil && !isOwn && firstUse[one.text] == "array"
		isVariable := item == nil && !isOwn && firstUse[one.text] == "variable"
		isNameFault := one.how == "defined" && item != one.item ||
			one.how == "parameter" && (item != nil || slices.Contains(one.ahead, one.text)) ||
			one.how == "called" && item == nil ||
			one.how == "array" && (item != nil || isVariable || isOwn) ||
			one.how == "variable" && (item != nil || isArray)
		isCountFault := one.how == "called" && one.given > len(paramsOf(item)) ||
			one.how == "parameter" && len(one.ahead) >= 8
		switch {
		case isNameFault:
			return one.place, api.ErrName
		case isCountFault:
			return one.place, api.ErrCount
		case one.misplaced:
			return one.place, api.ErrPlace
		}
	}
	return 0, api.OK
}

// sourceByTheWords tells what Compile must tell of a source, and the tree of
// one that has no fault.
func sourceByTheWords(source string) (*node, int, api.Errno) {
	if len(source) > 1000 {
		return nil, 0, api.ErrLong
	}
	list := tokensByTheWords(source)
	if wrong := docFlat.firstThatCannotStand(list); wrong >= 0 {
		return nil, list[wrong].place, api.ErrSyntax
	}
	program := treeByTheWords(list)
	at, e := faultByTheWords(program)
	return program, at, e
}

// treeByTheWords is the tree of tokens that follow the grammar.
func treeByTheWords(list []wordsToken) *node {
	m := treeMaker{docRules, list, map[string]madeNode{}}
	program, end := m.make("program", 0)
	if end != len(list)-1 {
		panic(fmt.Sprintf("the tree takes no more than %d of %v", end, list))
	}
	return program
}
