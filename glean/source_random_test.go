package glean_test

// These tests hold Compile, and the machines that play what it makes, against
// the words on random sources.

import (
	"math/rand/v2"
	"slices"
	"strconv"
	"strings"
	"testing"

	"glean/api"
	"glean/glean"
)

// holdSource holds what Compile tells of a source against the words.
func holdSource(t *testing.T, source string) (*node, string) {
	t.Helper()
	program, at, e := sourceByTheWords(source)
	b, gotAt, got := glean.Compile(source)
	if got != e || gotAt != at || (b == "") != (e != api.OK) {
		t.Errorf("Compile(%q) = %d bytes, %d, %d, want %d, %d", source, len(b), gotAt, got, at, e)
		return nil, ""
	}
	if e != api.OK {
		return nil, ""
	}
	if function, at, e := glean.Check(b); e != api.OK || function != 0 || at != 0 {
		t.Errorf("Compile(%q): Check tells %d, %d, %d", source, function, at, e)
	}
	return program, b
}

// play plays so many instructions, or fewer if the run ends.
func play(x *glean.Machine, n int) api.State {
	for ; n > 0 && x.Tell().Status == api.StGoing; n -= api.MaxFuel {
		x.Go(min(n, api.MaxFuel))
	}
	return x.Tell()
}

// holdMeaning holds a machine with what Compile makes of a source against what
// the source means, up to so many steps: P15 and P16.
func holdMeaning(t *testing.T, source string, records []string, draws []int, limit int) *meaning {
	t.Helper()
	b, _, e := glean.Compile(source)
	if e != api.OK {
		t.Errorf("Compile(%q) = %d", source, e)
		return nil
	}
	m := runByTheWords(treeByTheWords(tokensByTheWords(source)), records, draws, limit)
	x, e := glean.Open(b, records, draws)
	if e != api.OK {
		t.Errorf("%q: Open tells %d", source, e)
		return nil
	}
	s := play(x, api.Work*(m.fewest+1))
	switch {
	case m.Status == api.StGoing && !strings.HasPrefix(s.Output, m.Output):
		t.Errorf("%q %q %v: behind %d steps %q, behind %d instructions %+v", source, records, draws, m.fewest, m.Output, s.Used, s)
	case m.Status != api.StGoing && (s.Status != m.Status || s.Code != m.Code || s.Output != m.Output):
		t.Errorf("%q %q %v: %+v, want %+v behind %d steps", source, records, draws, s, m.State, m.fewest)
	case m.most > api.Slack*(s.Used+1):
		t.Errorf("%q %q %v: %d steps, %d instructions", source, records, draws, m.most, s.Used)
	}
	return m
}

// sourceMaker makes random sources by a grammar.
type sourceMaker struct {
	r     *rand.Rand
	rules map[string]*ebnf
	costs map[*ebnf]int
	// token is how a token of a kind is written.
	token func(kind string) string
	out   []string
	size  int // how many tokens there may be, before it must come to an end
	// What is around the statement at hand.
	inRule, inFunction, inLoop bool
}

// cost is how deep the least tree of a part of the grammar is.
func (k *sourceMaker) findCosts() {
	const far = 1000000
	k.costs = map[*ebnf]int{}
	cost := func(g *ebnf) int {
		if c, found := k.costs[g]; found {
			return c
		}
		return far
	}
	var tell func(g *ebnf) int
	tell = func(g *ebnf) int {
		least := 0
		switch g.form {
		case "rule":
			least = cost(k.rules[g.name]) + 1
		case "choice":
			least = far
			for _, p := range g.parts {
				least = min(least, tell(p))
			}
		default:
			for _, p := range g.parts {
				c := tell(p)
				if g.form == "sequence" {
					least = max(least, c)
				}
			}
		}
		k.costs[g] = min(least, far)
		return k.costs[g]
	}
	for range len(k.rules) + 1 {
		for _, g := range k.rules {
			tell(g)
		}
	}
}

// make writes a part of the grammar out; if there is much already, as shortly as
// it can.
func (k *sourceMaker) make(g *ebnf) {
	switch g.form {
	case "token":
		k.out = append(k.out, k.token(g.name))
	case "rule":
		k.around(g.name, func() { k.make(k.rules[g.name]) })
	case "choice":
		list := g.parts
		if len(k.out) >= k.size {
			list = slices.DeleteFunc(slices.Clone(list), func(p *ebnf) bool { return k.costs[p] > k.costs[g] })
		}
		k.make(list[k.r.IntN(len(list))])
	case "option":
		if len(k.out) < k.size && k.r.IntN(2) == 0 {
			k.make(g.parts[0])
		}
	case "loop":
		for len(k.out) < k.size && k.r.IntN(5) < 3 {
			k.make(g.parts[0])
		}
	case "sequence":
		for _, p := range g.parts {
			k.make(p)
		}
	}
}

// around tells what is around a rule of these names.
func (k *sourceMaker) around(name string, inside func()) {
	inRule, inFunction, inLoop := k.inRule, k.inFunction, k.inLoop
	switch name {
	case "rule":
		k.inRule = true
	case "function":
		k.inFunction = true
	case "body":
		k.inLoop = true
	}
	inside()
	k.inRule, k.inFunction, k.inLoop = inRule, inFunction, inLoop
}

// text lays blanks and comments between the tokens, where they may not do
// without.
func (k *sourceMaker) text() string {
	const alone = "(){}[],;"
	out := ""
	for i, token := range k.out {
		if i > 0 && k.r.IntN(3) > 0 && (strings.Contains(alone, token) || strings.Contains(alone, k.out[i-1])) {
			out += token
			continue
		}
		out += []string{" ", " ", " ", " ", " ", "\n", "\t", " \n ", "#\n", "# a \"comment\"/ {\n"}[k.r.IntN(10)] + token
	}
	if k.r.IntN(3) == 0 {
		return out
	}
	return strings.TrimPrefix(out, " ")
}

// write writes a rule of the grammar, of some tokens, behind what there is.
func (k *sourceMaker) write(rule string, size int) {
	k.size = len(k.out) + size
	k.make(&ebnf{form: "rule", name: rule})
}

func newSourceMaker(r *rand.Rand, grammar string, token func(kind string) string) *sourceMaker {
	k := &sourceMaker{r: r, rules: readGrammar(grammar), token: token}
	k.findCosts()
	return k
}

func pick(r *rand.Rand, words string) string {
	list := strings.Fields(words)
	return list[r.IntN(len(list))]
}

var (
	someNumerals = "0 1 2 3 1 2 10 007 1000000000 99 5"
	someStrings  = `"" "a" "b" "x" "10" "2" "0" "\t5\n" "-3" "\"\\" "abab" "a,b,,3" "aaaaaaaaaaaaaaaaaaaaaaaaaaaaaaaaaaaaaaaaaaaaaaaaa"`
	someRegexes  = `/a/ /x*/ /^[0-9]+$/ // /b|c/ /,/ /[ab]+/ /=/ /\// /\\/ /^/ /[/ /(/ /)/`
	rightRegexes = `/a/ /x*/ /^[0-9]+$/ // /b|c/ /,/ /[ab]+/ /=/ /\// /\\/ /^/`
)

func someToken(r *rand.Rand, kind string) string {
	switch kind {
	case "numeral":
		return pick(r, someNumerals)
	case "string":
		return pick(r, someStrings)
	case "regex":
		return pick(r, rightRegexes)
	}
	return kind
}

// wantTold tells tests that do not try what they are there for.
func wantTold(t *testing.T, told map[api.Errno]int, least int, errors ...api.Errno) {
	t.Helper()
	for _, e := range errors {
		if told[e] < least {
			t.Errorf("%d was told %d times", e, told[e])
		}
	}
}

// Sources by the document's grammar, with names that are often at fault.
func TestSourcesByTheWords(t *testing.T) {
	t.Parallel()
	r := rand.New(rand.NewPCG(51, 52))
	told := map[api.Errno]int{}
	few := ""
	k := newSourceMaker(r, docGrammar, func(kind string) string {
		if kind == "name" {
			return pick(r, few)
		}
		return someToken(r, kind)
	})
	for range 4000 {
		few = []string{"x", "x y", "x y f", "x y z f g", "x y z w v u s f"}[r.IntN(5)]
		k.out = nil
		k.write("program", r.IntN(60))
		source := k.text()
		if len(source) > 600 {
			continue
		}
		holdSource(t, source)
		_, _, e := glean.Compile(source)
		told[e]++
	}
	wantTold(t, told, 300, api.OK, api.ErrName, api.ErrPlace)
}

// rightGrammar is that of sources without a fault: x y z are variables, a b c
// arrays, p q parameters, f g h functions. Few loops go on for ever.
const rightGrammar = `
    item     = "BEGIN" block | rule | rule | rule | "END" block
    rule     = block | expr block | expr "," expr block
    f        = "function" "f" "(" "p" ")" function
    g        = "function" "g" "(" "p" "," "q" ")" function
    h        = "function" "h" "(" ")" function
    function = block
    block    = "{" { stmt } "}" | "{" stmt { stmt } "}"
    stmt     = block | ";" | "if" "(" expr ")" stmt | "if" "(" expr ")" block "else" stmt | while | for | for | print | print | print
             | "delete" array [ "[" expr "]" ] ";" | leave | leave | expr ";" | assign ";" | assign ";" | assign ";"
    while    = "while" "(" "(" "n" "+=" "1" ")" "%" "4" ")" body | "while" "(" "getline" ")" body | "while" "(" "draw" ")" body | "while" "(" "(" var "+=" "1" ")" "<" "4" ")" body
             | "while" "(" "x" ")" body
    for      = "for" "(" var "in" array ")" body | "for" "(" var "in" array ")" "{" "print" key ";" { stmt } "}"
    body     = stmt | block
    key      = var
    print    = "print" ";" | "print" expr ";" | "print" expr "," expr { "," expr } ";"
    expr     = cond | cond | cond | assign
    assign   = target asgn expr
    asgn     = "=" | "=" | "=" | "=" | "=" | "+=" | "+=" | "-=" | "*=" | ( "/=" | "%=" )
    target   = var | var | array "[" expr "]" | "$" primary
    cond     = or | or | or | or "?" expr ":" expr
    or       = and | and | and | and { "||" and }
    and      = member | member | member | member { "&&" member }
    member   = matched | matched | matched | matched { "in" array }
    matched  = rel | rel | rel | rel { ( "~" | "!~" ) regex }
    rel      = cat | cat | cat | cat ( "<" | "<=" | "==" | "!=" | ">" | ">=" ) cat
    cat      = sum | sum | sum { "." sum }
    sum      = term | term | term { ( "+" | "-" ) term }
    term     = unary | unary | unary | unary { ( "*" | "*" | "/" | "%" ) unary } | unary ( "/" | "%" ) "2"
    unary    = ( "!" | "-" ) unary | primary | primary | primary | primary
    primary  = numeral | numeral | string | string | regex | "(" expr ")" | target | target | var | var | var | "NF" | "NR" | "getline" | "draw"
             | "f" "(" [ expr ] ")" | "f" "(" [ expr ] ")" | "g" "(" [ expr [ "," expr ] ] ")" | "h" "(" ")" | "length" "(" expr ")"
             | "substr" "(" expr "," expr [ "," expr ] ")" | "index" "(" expr "," expr ")" | "match" "(" expr "," regex ")" | "span" "(" expr "," regex ")"
             | "swap" "(" regex "," expr "," expr ")" | "split" "(" expr "," array "," regex ")"
`

// newRightMaker makes sources without a fault.
func newRightMaker(r *rand.Rand, grammar string) *sourceMaker {
	var k *sourceMaker
	k = newSourceMaker(r, grammar, func(kind string) string {
		switch kind {
		case "var":
			return pick(r, "x y z p q")
		case "array":
			return pick(r, "a b c")
		case "leave":
			return k.leave()
		}
		return someToken(r, kind)
	})
	return k
}

// leave is a statement that leaves something, if it may stand there.
func (k *sourceMaker) leave() string {
	list := []string{"exit 3;", ";"}
	if k.r.IntN(4) > 0 {
		list = nil
	}
	if k.inRule {
		list = append(list, "next;")
	}
	if k.inFunction {
		list = append(list, "return;", "return p;", "return x . 1;", "return a[x] += 1;")
	}
	if k.inLoop {
		list = append(list, "break;", "continue;")
	}
	return append(list, ";")[k.r.IntN(len(list)+1)]
}

// right makes a source without a fault: some items, and the functions among
// them.
func (k *sourceMaker) right(items, size int) string {
	list := []string{"f", "g", "h"}
	for range items {
		list = append(list, "item")
	}
	k.r.Shuffle(len(list), func(i, j int) { list[i], list[j] = list[j], list[i] })
	k.out = nil
	for _, rule := range list {
		k.write(rule, k.r.IntN(size))
	}
	return k.text()
}

func randomRecords(r *rand.Rand) (records []string, draws []int) {
	for range r.IntN(6) {
		records = append(records, []string{"", "a", "b x", "1 2 3", "10 9", " 5 ", "a,b,,3", "x y z w", "0", "-1 +2", "abab", "5 a 5"}[r.IntN(12)])
	}
	for range r.IntN(4) {
		draws = append(draws, r.IntN(5)-1)
	}
	return records, draws
}

// What sources mean, and in how many steps.
func TestMeaningsByTheWords(t *testing.T) {
	t.Parallel()
	r := rand.New(rand.NewPCG(53, 54))
	k := newRightMaker(r, rightGrammar)
	ends, refused := map[int]int{}, 0
	for range 3000 {
		source := k.right(1+r.IntN(5), 5+r.IntN(60))
		if _, _, e := glean.Compile(source); e != api.OK {
			holdSource(t, source) // it is too long, or a regex stands where a / divides
			refused++
			continue
		}
		for range 2 {
			records, draws := randomRecords(r)
			if m := holdMeaning(t, source, records, draws, 1500); m != nil {
				ends[m.Status]++
			}
		}
	}
	for status := api.StEnded; status <= api.StDepth; status++ {
		if isRare := status >= api.StLong && status <= api.StOutput; !isRare && ends[status] == 0 {
			t.Errorf("no run ended with %d", status)
		}
	}
	if ends[api.StEnded] < 2000 || refused > 600 {
		t.Errorf("%v, %d refused", ends, refused)
	}
}

// Sources without a fault, but for some names and words that stand where others
// should.
func TestNamesByTheWords(t *testing.T) {
	t.Parallel()
	r := rand.New(rand.NewPCG(59, 60))
	k := newRightMaker(r, strings.ReplaceAll(rightGrammar, `"h" "(" ")" |`, `"h" "(" [ expr ] ")" |`))
	right, few := k.token, 1
	k.token = func(kind string) string {
		isName := slices.Contains(strings.Fields("var array f g h p q"), kind)
		switch {
		case isName && r.IntN(few) == 0:
			return pick(r, "x y z a b c f g h p q")
		case kind == "leave" && r.IntN(few) == 0:
			return pick(r, "next return break continue") + ";"
		}
		return right(kind)
	}
	told := map[api.Errno]int{}
	for range 4000 {
		few = []int{3, 10, 30, 100}[r.IntN(4)]
		source := k.right(r.IntN(3), 5+r.IntN(20))
		holdSource(t, source)
		_, _, e := glean.Compile(source)
		told[e]++
	}
	wantTold(t, told, 40, api.OK, api.ErrName, api.ErrCount, api.ErrPlace)
}

// spoilTokens changes, takes out, doubles or moves a token.
func spoilTokens(r *rand.Rand, list []string) []string {
	at := r.IntN(len(list))
	other := list[r.IntN(len(list))]
	if r.IntN(2) == 0 {
		other = pick(r, docWords+" "+docSigns+" x y f 1 \"a\" /a/ @ & | \" \"\\q\" 1000000001 ' \x00 \xff")
	}
	switch r.IntN(5) {
	case 0:
		return slices.Delete(slices.Clone(list), at, at+1)
	case 1:
		return slices.Insert(slices.Clone(list), at, other)
	case 2:
		return slices.Insert(slices.Clone(list), at, list[at])
	case 3:
		return slices.Clone(list[:at])
	}
	out := slices.Clone(list)
	out[at] = other
	return out
}

func TestSpoiledSourcesByTheWords(t *testing.T) {
	t.Parallel()
	r := rand.New(rand.NewPCG(55, 56))
	k := newRightMaker(r, rightGrammar)
	told := map[api.Errno]int{}
	for range 2000 {
		k.right(r.IntN(3), 5+r.IntN(20))
		for range 5 {
			if len(k.out) == 0 {
				break
			}
			if k.out = spoilTokens(r, k.out); len(k.out) > 150 {
				break
			}
			source := k.text()
			holdSource(t, source)
			_, _, e := glean.Compile(source)
			told[e]++
		}
	}
	wantTold(t, told, 40, api.OK, api.ErrName, api.ErrSyntax)
}

// Sources of bytes without any order.
func TestAnyBytesByTheWords(t *testing.T) {
	t.Parallel()
	r := rand.New(rand.NewPCG(57, 58))
	for range 3000 {
		source := ""
		for range r.IntN(12) {
			switch r.IntN(6) {
			case 0:
				source += string(rune(r.IntN(256)))
			case 1:
				source += string([]byte{byte(r.IntN(256))})
			case 2:
				source += pick(r, "x y 1 20 \" \\ / \n # BEGIN { } print $0")
			case 3:
				source += pick(r, someStrings+" "+someRegexes)
			default:
				source += pick(r, docWords+" "+docSigns) + []string{"", " "}[r.IntN(2)]
			}
		}
		holdSource(t, source)
		holdSource(t, "BEGIN { print "+source+"; }")
		holdSource(t, "{ x = "+strconv.Itoa(r.IntN(10))+source+"; }")
	}
}
