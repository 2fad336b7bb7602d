package check

import (
	"palings/api"
	"palings/ast"
	"palings/word"
)

// want looks at an expression, and then whether it is of that type: what is wrong within it is told ahead.
func (c *checker) want(e ast.Expr, t Type) {
	if c.expr(e) != t {
		c.fail(api.ErrType, e.At)
	}
}

// expr is the type of an expression; behind a fault whatever is at hand.
func (c *checker) expr(e ast.Expr) Type {
	switch e.Kind {
	case ast.Num:
		return Int
	case ast.Truth:
		return Bool
	case ast.Var:
		return c.value(e)
	case ast.Index:
		return c.index(e)
	case ast.Call:
		return c.call(e)
	case ast.Both:
		return c.both(e)
	case ast.And, ast.Or:
		c.kids(e, 2, Bool)
		return Bool
	case ast.Not:
		c.kids(e, 1, Bool)
		return Bool
	}
	c.fail(api.ErrBad, e.At)
	return None
}

func (c *checker) value(e ast.Expr) Type {
	t := c.variable(e.Name)
	if t == None {
		c.fail(api.ErrName, e.At)
	}
	return t
}

func (c *checker) index(e ast.Expr) Type {
	if !c.array(e.Name) {
		c.fail(api.ErrName, e.At)
	}
	c.kids(e, 1, Int)
	return Int
}

func (c *checker) call(e ast.Expr) Type {
	i, ok := c.info.Funcs[e.Name]
	if !ok {
		c.fail(api.ErrName, e.At)
		return None
	}
	if len(e.Kids) != len(c.prog.Funcs[i].Params) {
		c.fail(api.ErrCount, e.At)
	}
	c.kids(e, len(e.Kids), Int)
	return Int
}

// both has its op looked at behind its Kids; Below is one that no program may name.
func (c *checker) both(e ast.Expr) Type {
	c.kids(e, 2, Int)
	if !e.Op.Known() || e.Op == word.Below {
		c.fail(api.ErrBad, e.At)
	}
	if e.Op.Truth() {
		return Bool
	}
	return Int
}

// kids looks at the Kids of an expression, which must be so many, each of that type.
func (c *checker) kids(e ast.Expr, many int, t Type) {
	if len(e.Kids) != many {
		c.fail(api.ErrBad, e.At)
	}
	for _, kid := range e.Kids {
		c.want(kid, t)
	}
}
