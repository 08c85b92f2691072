package compiler

import (
	"glean/api"
	"glean/syntax"
)

// stmt compiles a statement. It leaves the stack as it found it.
func (c *compiler) stmt(s *syntax.Stmt) {
	switch s.Kind {
	case "{":
		for _, one := range s.Body {
			c.stmt(one)
		}
	case "if":
		c.choice(s)
	case "while":
		c.while(s)
	case "for":
		c.each(s)
	case "print":
		c.print(s.Exprs)
	case "delete":
		c.deletion(s)
	case "next":
		// What lies on the stack may lie there: the function ends.
		c.add(api.OpEnd)
	case "exit":
		c.exit(s.Exprs)
	case "return":
		c.giveBack(s.Exprs)
	case "break":
		c.leaveLoop()
	case "continue":
		c.addTo(api.OpJump, c.loops[len(c.loops)-1].again)
	case syntax.Value:
		c.value(s.Exprs[0])
		c.add(api.OpDrop)
	}
}

func (c *compiler) choice(s *syntax.Stmt) {
	otherwise := c.newLabel()
	c.truth(s.Exprs[0])
	c.addTo(api.OpJz, otherwise)
	c.stmt(s.Body[0])
	if len(s.Body) == 1 {
		c.lay(otherwise)
		return
	}
	out := c.newLabel()
	c.addTo(api.OpJump, out)
	c.lay(otherwise)
	c.stmt(s.Body[1])
	c.lay(out)
}

func (c *compiler) while(s *syntax.Stmt) {
	l := loop{again: c.newLabel(), out: c.newLabel()}
	c.lay(l.again)
	c.truth(s.Exprs[0])
	c.addTo(api.OpJz, l.out)
	c.looped(l, s.Body[0])
}

// each compiles a for. Its keys lie on the stack as long as it is on.
func (c *compiler) each(s *syntax.Stmt) {
	l := loop{again: c.newLabel(), out: c.newLabel(), hasKeys: true}
	c.add(api.OpKeys, c.arrays.Number(s.Array))
	c.lay(l.again)
	c.addTo(api.OpEach, l.out)
	c.store(s.Name)
	c.looped(l, s.Body[0])
}

// looped compiles the statement of a loop, and what is behind it.
func (c *compiler) looped(l loop, s *syntax.Stmt) {
	c.loops = append(c.loops, l)
	c.stmt(s)
	c.loops = c.loops[:len(c.loops)-1]
	c.addTo(api.OpJump, l.again)
	c.lay(l.out)
}

// leaveLoop compiles a break.
func (c *compiler) leaveLoop() {
	l := c.loops[len(c.loops)-1]
	if l.hasKeys {
		c.add(api.OpDrop)
	}
	c.addTo(api.OpJump, l.out)
}

func (c *compiler) print(list []*syntax.Expr) {
	for _, e := range list {
		c.text(e)
	}
	if len(list) == 0 {
		c.record()
	}
	c.add(api.OpPrint, max(1, len(list)))
}

func (c *compiler) deletion(s *syntax.Stmt) {
	if len(s.Exprs) == 0 {
		c.add(api.OpAclear, c.arrays.Number(s.Array))
		return
	}
	c.text(s.Exprs[0])
	c.add(api.OpAdel, c.arrays.Number(s.Array))
}

func (c *compiler) exit(list []*syntax.Expr) {
	if len(list) == 0 {
		c.constant(0)
	} else {
		c.number(list[0])
	}
	c.add(api.OpExit)
}

// giveBack compiles a return.
func (c *compiler) giveBack(list []*syntax.Expr) {
	if len(list) == 0 {
		c.add(api.OpNil)
	} else {
		c.value(list[0])
	}
	c.add(api.OpRet)
}
