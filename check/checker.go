package check

import (
	"palings/api"
	"palings/ast"
	"palings/lex"
)

// checker goes through a program in the order in which its errors are told, and on to its end: what it finds behind its first fault is let go.
type checker struct {
	prog   ast.Prog
	info   Info
	locals map[string]Type // Params, and what was let, as far as they are known where it stands
	fault  lex.Fault
}

func (c *checker) fail(e api.Errno, at api.Pos) {
	if c.fault.E == api.OK {
		c.fault = lex.Fault{E: e, At: at}
	}
}

// known tells whether a name means something already, whatever that is.
func (c *checker) known(name string) bool {
	_, local := c.locals[name]
	_, global := c.info.Globals[name]
	_, function := c.info.Funcs[name]
	return local || global || function
}

// variable is the type of a name that has a value by itself; None, if it has none.
func (c *checker) variable(name string) Type {
	if t, ok := c.locals[name]; ok {
		return t
	}
	if i, ok := c.info.Globals[name]; ok && c.prog.Globals[i].Size == 0 {
		return Int
	}
	return None
}

// array tells whether a name has values by an index.
func (c *checker) array(name string) bool {
	i, ok := c.info.Globals[name]
	return ok && c.prog.Globals[i].Size > 0
}
