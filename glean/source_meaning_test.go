package glean_test

// What a program means, by the document's words: the tree of a source is gone
// through, and steps are counted.

import (
	"fmt"
	"slices"
	"strconv"

	"glean/api"
	"glean/glean"
)

// meaning is a run of a source. What records, fields, draws, arrays and the
// output are it has from the machine by the words; arrays by the numbers of
// their names.
type meaning struct {
	*wordsMachine
	program   *node
	functions map[string]*node
	variables map[string]any
	numbers   map[string]int
	open      map[*node]bool   // ranges
	calls     []map[string]any // the parameters of those that are under way
	given     any              // by return
	fewest    int              // steps; expressions count when they are worked out
	most      int              // steps; expressions count when they are begun, and all that could be a part of them
	limit     int
}

// tooLong is thrown when more steps are taken than one wants to see.
type tooLong struct{}

// signal is how a statement ended, if not by its end.
type signal string

// runByTheWords lets a source run, up to so many steps.
func runByTheWords(program *node, records []string, draws []int, limit int) (m *meaning) {
	m = &meaning{
		wordsMachine: openByTheWords(codeModule(0, asm("end")), records, draws), program: program, limit: limit,
		functions: map[string]*node{}, variables: map[string]any{}, numbers: map[string]int{}, open: map[*node]bool{},
	}
	defer func() {
		switch e := recover().(type) {
		case nil, tooLong:
		case ended:
			m.Status = int(e)
		default:
			panic(e)
		}
	}()
	for _, item := range program.parts {
		if item.is(0, "function") {
			m.functions[item.parts[1].token.text] = item
		}
	}
	m.run()
	m.Status = api.StEnded
	return m
}

func (m *meaning) run() {
	m.items("BEGIN")
	for m.readRecord() == 1 {
		m.step()
		for _, item := range m.program.parts {
			if item.parts[0].rule != "" && m.rule(item) == "next" {
				break
			}
		}
	}
	m.items("END")
}

func (m *meaning) items(kind string) {
	for _, item := range m.program.parts {
		if item.is(0, kind) {
			m.step()
			m.stmt(item.parts[1])
		}
	}
}

// step counts a step that is no expression.
func (m *meaning) step() {
	m.begun()
	m.done()
}

func (m *meaning) begun() {
	if m.most++; m.most > m.limit {
		panic(tooLong{})
	}
}

func (m *meaning) done() { m.fewest++ }

func (m *meaning) rule(item *node) signal {
	m.step()
	block := item.parts[len(item.parts)-1]
	exprs := item.of("expr")
	switch len(exprs) {
	case 1:
		if !valueHolds(m.value(exprs[0])) {
			return ""
		}
	case 2:
		if !m.open[item] {
			m.open[item] = valueHolds(m.value(exprs[0]))
		}
		if !m.open[item] {
			return ""
		}
		if valueHolds(m.value(exprs[1])) {
			m.open[item] = false
		}
	}
	return m.stmt(block)
}

func (m *meaning) stmt(n *node) signal {
	if n.rule == "stmt" && n.parts[0].rule == "block" {
		return m.stmt(n.parts[0])
	}
	m.step()
	exprs, stmts := n.of("expr"), n.of("stmt")
	switch {
	case n.rule == "block":
		for _, s := range stmts {
			if how := m.stmt(s); how != "" {
				return how
			}
		}
	case n.is(0, "if"):
		if valueHolds(m.value(exprs[0])) {
			return m.stmt(stmts[0])
		}
		if len(stmts) == 2 {
			return m.stmt(stmts[1])
		}
	case n.is(0, "while"):
		for {
			m.step()
			if !valueHolds(m.value(exprs[0])) {
				return ""
			}
			if how := m.stmt(stmts[0]); how == "break" {
				return ""
			} else if how == "next" || how == "return" {
				return how
			}
		}
	case n.is(0, "for"):
		return m.each(n.parts[2].token.text, m.array(n.parts[4]), stmts[0])
	case n.is(0, "print"):
		m.printAll(exprs)
	case n.is(0, "delete"):
		m.deletion(m.array(n.parts[1]), exprs)
	case n.is(0, "next"), n.is(0, "break"), n.is(0, "continue"):
		return signal(n.parts[0].token.kind)
	case n.is(0, "exit"):
		if len(exprs) == 1 {
			m.Code = numberOf(m.value(exprs[0]))
		}
		panic(ended(api.StExit))
	case n.is(0, "return"):
		m.given = nil
		if len(exprs) == 1 {
			m.given = m.value(exprs[0])
		}
		return "return"
	case len(exprs) == 1:
		m.value(exprs[0])
	}
	return ""
}

func (m *meaning) each(variable string, array int, body *node) signal {
	for _, key := range m.keys(array) {
		if m.at(array, key) < 0 {
			continue
		}
		m.step()
		m.setVariable(variable, key)
		if how := m.stmt(body); how == "break" {
			return ""
		} else if how == "next" || how == "return" {
			return how
		}
	}
	return ""
}

func (m *meaning) printAll(exprs []*node) {
	var texts []any
	for _, e := range exprs {
		texts = append(texts, textOf(m.value(e)))
	}
	if len(exprs) == 0 {
		texts = []any{m.record}
	}
	m.print(texts)
}

func (m *meaning) deletion(array int, exprs []*node) {
	if len(exprs) == 0 {
		m.arrays[array] = nil
		return
	}
	key := textOf(m.value(exprs[0]))
	m.arrays[array] = slices.DeleteFunc(slices.Clone(m.arrays[array]), func(e element) bool { return e.key == key })
}

// array is the number of an array, by its name.
func (m *meaning) array(name *node) int {
	m.begun()
	number, found := m.numbers[name.token.text]
	if !found {
		number = len(m.numbers)
		m.numbers[name.token.text] = number
	}
	return number
}

// pattern is that of a regex with which something is asked.
func (m *meaning) pattern(regex *node) string {
	m.begun()
	return regex.token.text
}

func (m *meaning) holder(name string) map[string]any {
	if len(m.calls) > 0 {
		if own := m.calls[len(m.calls)-1]; hasKey(own, name) {
			return own
		}
	}
	return m.variables
}

func hasKey(all map[string]any, name string) bool {
	_, found := all[name]
	return found
}

func (m *meaning) setVariable(name string, v any) { m.holder(name)[name] = v }

// lookUp is an element; it comes in if it is not there.
func (m *meaning) lookUp(array int, key string) any {
	if m.at(array, key) < 0 {
		m.set(array, key, nil)
	}
	return m.arrays[array][m.at(array, key)].value
}

func (m *meaning) field(n int) any { return m.playRecord("field", []any{n})[0] }

// value works an expression out.
func (m *meaning) value(n *node) any {
	switch n.rule {
	case "expr":
		if len(n.parts) == 3 {
			return m.assign(n.parts[0], n.parts[1].parts[0].token.kind, n.parts[2])
		}
	case "unary":
		if len(n.parts) == 2 {
			m.begun()
			v := m.value(n.parts[1])
			m.done()
			if n.is(0, "!") {
				return oneIf(!valueHolds(v))
			}
			return -numberOf(v)
		}
	case "primary":
		return m.primary(n)
	case "target":
		return m.target(n)
	case "cond":
		if len(n.parts) > 1 {
			m.begun()
			which := 4
			if valueHolds(m.value(n.parts[0])) {
				which = 2
			}
			v := m.value(n.parts[which])
			m.done()
			return v
		}
	default:
		return m.level(n)
	}
	return m.value(n.parts[0])
}

// level works out operators of one level, from the left.
func (m *meaning) level(n *node) any {
	for i := 1; i < len(n.parts); i += 2 {
		m.begun()
	}
	v := m.value(n.parts[0])
	for i := 1; i < len(n.parts); i += 2 {
		v = m.operate(n.parts[i].token.kind, v, n.parts[i+1])
		m.done()
	}
	return v
}

var operations = map[string]string{
	"+": "add", "-": "sub", "*": "mul", "/": "div", "%": "mod", "<": "lt", "<=": "le", "==": "eq", "!=": "ne", ">": "gt", ">=": "ge",
}

func (m *meaning) operate(sign string, v any, other *node) any {
	switch sign {
	case "||":
		return oneIf(valueHolds(v) || valueHolds(m.value(other)))
	case "&&":
		return oneIf(valueHolds(v) && valueHolds(m.value(other)))
	case "in":
		return oneIf(m.at(m.array(other), textOf(v)) >= 0)
	case "~", "!~":
		place, _, _ := glean.Find(m.pattern(other), textOf(v), 0)
		return oneIf((place >= 0) == (sign == "~"))
	case ".":
		text := textOf(v) + textOf(m.value(other))
		endIf(len(text) > 100, api.StLong)
		return text
	case "<", "<=", "==", "!=", ">", ">=":
		return compareByTheWords(operations[sign], compareValues(v, m.value(other)))
	}
	return sumByTheWords(operations[sign], []any{numberOf(v), numberOf(m.value(other))})
}

func (m *meaning) target(n *node) any {
	m.begun()
	v := m.standsAt(n, m.key(n))
	m.done()
	return v
}

// key is which element or field a target is; of a variable nothing.
func (m *meaning) key(target *node) any {
	switch {
	case target.is(0, "$"):
		return numberOf(m.value(target.parts[1]))
	case len(target.parts) == 4:
		return textOf(m.value(target.parts[2]))
	}
	return nil
}

func (m *meaning) assign(target *node, sign string, e *node) any {
	m.begun()
	m.begun() // the target
	key := m.key(target)
	var now any
	if sign != "=" {
		now = m.standsAt(target, key)
	}
	v := m.value(e)
	if sign != "=" {
		v = sumByTheWords(operations[sign[:1]], []any{numberOf(now), numberOf(v)})
	}
	switch {
	case target.is(0, "$"):
		m.setField(key.(int), textOf(v))
	case key != nil:
		m.set(m.array(target.parts[0]), key.(string), v)
	default:
		m.setVariable(target.parts[0].token.text, v)
	}
	m.done()
	return v
}

// standsAt is what a target is now.
func (m *meaning) standsAt(target *node, key any) any {
	switch {
	case target.is(0, "$"):
		return m.field(key.(int))
	case key != nil:
		return m.lookUp(m.array(target.parts[0]), key.(string))
	}
	name := target.parts[0].token.text
	return m.holder(name)[name]
}

func (m *meaning) primary(n *node) any {
	first := n.parts[0]
	exprs := n.of("expr")
	switch {
	case first.rule == "target":
		return m.value(first)
	case first.token.kind == "(":
		return m.value(exprs[0])
	}
	m.begun()
	v := m.operand(n, exprs)
	m.done()
	return v
}

func (m *meaning) operand(n *node, exprs []*node) any {
	first := n.parts[0]
	switch first.token.kind {
	case "numeral":
		number, _ := strconv.Atoi(first.token.text)
		return number
	case "string":
		return first.token.text
	case "regex":
		place, _, _ := glean.Find(first.token.text, m.record, 0)
		return oneIf(place >= 0)
	case "NF", "NR", "getline", "draw":
		return m.playRecord(map[string]string{"NF": "nf", "NR": "nr", "getline": "getline", "draw": "draw"}[first.token.kind], nil)[0]
	case "name":
		return m.call(m.functions[first.token.text], exprs)
	}
	return m.worded(first.token.kind, n, exprs)
}

func (m *meaning) call(item *node, exprs []*node) any {
	own := map[string]any{}
	params := paramsOf(item)
	for _, p := range params {
		own[p] = nil
	}
	for i, e := range exprs {
		own[params[i]] = m.value(e)
	}
	endIf(len(m.calls) == 20, api.StDepth)
	m.calls = append(m.calls, own)
	m.given = nil
	how := m.stmt(item.parts[len(item.parts)-1])
	m.calls = m.calls[:len(m.calls)-1]
	if how == "return" {
		return m.given
	}
	return nil
}

func (m *meaning) worded(kind string, n *node, exprs []*node) any {
	var c []any
	for i, e := range exprs {
		v := m.value(e)
		if kind == "substr" && i > 0 {
			c = append(c, numberOf(v))
		} else {
			c = append(c, textOf(v))
		}
	}
	var operands []int
	for _, p := range n.parts {
		if p.rule == "" && p.token.kind == "regex" {
			m.m.Patterns = []string{m.pattern(p)}
			operands = append(operands, 0)
		}
	}
	switch kind {
	case "substr":
		if len(c) == 2 {
			c = append(c, 1000000000)
		}
	case "split":
		operands = []int{m.array(n.parts[4]), 0}
	}
	name := map[string]string{"length": "len", "substr": "part", "index": "index", "match": "find", "span": "span", "swap": "swap", "split": "split"}[kind]
	left := m.playText(step{row: row{name: name}, operands: operands}, c)
	if len(left) != 1 {
		panic(fmt.Sprintf("%s leaves %v", kind, left))
	}
	return left[0]
}
