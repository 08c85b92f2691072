// Package compiler makes a module out of a program.
package compiler

import (
	"glean/api"
	"glean/modules"
	"glean/syntax"
	"glean/tables"
)

// global is what a global is there for: a variable, by its name, or that a
// range is open, by the number of its rule.
type global struct {
	name string
	rule int
}

// loop is one that is around what is being compiled.
type loop struct {
	again, out label
	hasKeys    bool // its keys lie on the stack
}

// compiler is on its way through a program. What it has come upon already is in
// its tables; there it has its number in the module.
type compiler struct {
	texts, patterns, arrays tables.Table[string]
	globals                 tables.Table[global]
	functions               tables.Table[string]
	params                  []int // by the numbers of the functions

	// Of the function at hand:
	body
	locals tables.Table[string]
	loops  []loop
}

// Module makes the module of a program that has no fault.
func Module(p syntax.Program) api.Module {
	var c compiler
	for _, f := range p.Functions {
		c.functions.Number(f.Name)
		c.params = append(c.params, len(f.Params))
	}
	funcs := []api.Func{c.blocks(p.Begins), c.rules(p.Rules), c.blocks(p.Ends)}
	for _, f := range p.Functions {
		funcs = append(funcs, c.function(f))
	}
	return api.Module{
		Texts:    c.texts.Keys(),
		Patterns: c.patterns.Keys(),
		Globals:  c.globals.Len(),
		Arrays:   c.arrays.Len(),
		Funcs:    funcs,
	}
}

// begin lets a function begin.
func (c *compiler) begin() {
	c.body, c.locals, c.loops = body{}, tables.Table[string]{}, nil
}

// end tells the function that was compiled.
func (c *compiler) end() api.Func {
	return api.Func{Params: c.locals.Len(), Locals: c.locals.Len(), Code: c.code()}
}

// blocks compiles the blocks of all BEGIN items, or of all END items.
func (c *compiler) blocks(list []*syntax.Stmt) api.Func {
	c.begin()
	for _, block := range list {
		c.stmt(block)
	}
	c.add(api.OpEnd)
	return c.end()
}

// rules compiles what is done for each record.
func (c *compiler) rules(list []syntax.Rule) api.Func {
	c.begin()
	for number, r := range list {
		c.rule(number, r)
	}
	c.add(api.OpEnd)
	return c.end()
}

func (c *compiler) rule(number int, r syntax.Rule) {
	out := c.newLabel()
	switch len(r.Pattern) {
	case 1:
		c.truth(r.Pattern[0])
		c.addTo(api.OpJz, out)
	case 2:
		c.rangeOf(number, r.Pattern[0], r.Pattern[1], out)
	}
	c.stmt(r.Block)
	c.lay(out)
}

// rangeOf compiles the pattern of a range: where it is shut one goes on
// elsewhere. Whether the second expr holds is all that tells whether it stays
// open, as nobody asks in between.
func (c *compiler) rangeOf(number int, first, second *syntax.Expr, out label) {
	isOpen, open := c.globals.Number(global{rule: number}), c.newLabel()
	c.add(api.OpGload, isOpen)
	c.add(api.OpTest)
	c.add(api.OpNot)
	c.addTo(api.OpJz, open)
	c.truth(first)
	c.addTo(api.OpJz, out)
	c.lay(open)
	c.truth(second)
	c.add(api.OpNot)
	c.add(api.OpGstore, isOpen)
}

// function compiles a function that is called. If its block comes to its end,
// it leaves nothing.
func (c *compiler) function(f syntax.Function) api.Func {
	c.begin()
	for _, name := range f.Params {
		c.locals.Number(name)
	}
	c.stmt(f.Block)
	c.add(api.OpNil)
	c.add(api.OpRet)
	return c.end()
}

// functionNumber is the number in the module of a function that is called.
func (c *compiler) functionNumber(name string) (number, params int) {
	number, _ = c.functions.Find(name)
	return number + modules.Entries, c.params[number]
}
