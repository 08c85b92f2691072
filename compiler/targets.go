package compiler

import (
	"glean/api"
	"glean/syntax"
	"glean/tokens"
)

// aim leaves what tells which element or field a target is: its key or its
// number. Of a variable that is nothing.
func (c *compiler) aim(target *syntax.Expr) {
	switch target.Kind {
	case "[":
		c.text(target.Parts[0])
	case "$":
		c.number(target.Parts[0])
	}
}

// fetch takes what was aimed at, and leaves what stands there.
func (c *compiler) fetch(target *syntax.Expr) {
	switch target.Kind {
	case "[":
		c.add(api.OpAget, c.arrays.Number(target.Name))
	case "$":
		c.add(api.OpField)
	default:
		c.load(target.Name)
	}
}

// keep leaves what was aimed at once more.
func (c *compiler) keep(target *syntax.Expr) {
	if target.Kind != tokens.Name {
		c.add(api.OpDup)
	}
}

// put takes what was aimed at and a value, lays the value there, and leaves it.
func (c *compiler) put(target *syntax.Expr) {
	switch target.Kind {
	case "[":
		c.add(api.OpUnder)
		c.add(api.OpAset, c.arrays.Number(target.Name))
	case "$":
		c.add(api.OpUnder)
		c.add(api.OpSetfield)
	default:
		c.add(api.OpDup)
		c.store(target.Name)
	}
}

func (c *compiler) assign(e *syntax.Expr) kind {
	target, source := e.Parts[0], e.Parts[1]
	c.aim(target)
	if e.Kind == "=" {
		k := c.value(source)
		c.put(target)
		return k
	}
	c.keep(target)
	c.fetch(target)
	c.add(api.OpTonum)
	c.number(source)
	c.add(calculating(e.Kind))
	c.put(target)
	return num
}

// load leaves the value of a variable.
func (c *compiler) load(name string) {
	if number, found := c.locals.Find(name); found {
		c.add(api.OpLoad, number)
	} else {
		c.add(api.OpGload, c.globals.Number(global{name: name}))
	}
}

// store takes a value, which a variable is from now on.
func (c *compiler) store(name string) {
	if number, found := c.locals.Find(name); found {
		c.add(api.OpStore, number)
	} else {
		c.add(api.OpGstore, c.globals.Number(global{name: name}))
	}
}
