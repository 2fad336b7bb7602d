package check

import (
	"palings/api"
	"palings/ast"
)

// block forgets at its end what was let in it. No name is let over one around it, so none of those is lost.
func (c *checker) block(list []ast.Stmt) {
	for _, s := range list {
		c.stmt(s)
	}
	for _, s := range list {
		if s.Does == ast.Let {
			delete(c.locals, s.Name)
		}
	}
}

func (c *checker) stmt(s ast.Stmt) {
	switch s.Does {
	case ast.Let:
		c.let(s)
	case ast.Set:
		c.set(s)
	case ast.Put:
		c.put(s)
	case ast.If, ast.While:
		c.part(s, 0, Bool)
		c.block(s.Then)
		c.block(s.Else)
	case ast.Return, ast.Run:
		c.part(s, 0, Int)
	default:
		c.fail(api.ErrBad, s.At)
	}
}

// let has its name known behind the expression alone: the name can't stand in it.
func (c *checker) let(s ast.Stmt) {
	if c.lacks(s, 0) {
		return
	}
	t := c.expr(s.E[0])
	if c.known(s.Name) {
		c.fail(api.ErrTwice, s.At)
	}
	c.locals[s.Name] = t
}

func (c *checker) set(s ast.Stmt) {
	t := c.variable(s.Name)
	if t == None {
		c.fail(api.ErrName, s.At)
	}
	c.part(s, 0, t)
}

func (c *checker) put(s ast.Stmt) {
	if !c.array(s.Name) {
		c.fail(api.ErrName, s.At)
	}
	c.part(s, 0, Int)
	c.part(s, 1, Int)
}

// part looks at the i-th expression of a statement, which must be there and of that type.
func (c *checker) part(s ast.Stmt, i int, t Type) {
	if !c.lacks(s, i) {
		c.want(s.E[i], t)
	}
}

// lacks tells whether a statement has no i-th expression, which is its fault.
func (c *checker) lacks(s ast.Stmt, i int) bool {
	if i < len(s.E) {
		return false
	}
	c.fail(api.ErrBad, s.At)
	return true
}
