package build

import (
	"palings/api"
	"palings/ast"
	"palings/ssa"
	"palings/word"
)

// expr lays what reckons an expression, and tells its value.
func (m *maker) expr(e ast.Expr) int {
	switch e.Kind {
	case ast.Num:
		return m.number(e.Num)
	case ast.Truth:
		return m.number(word.Bool(e.Num != 0))
	case ast.Var:
		return m.variable(e.Name)
	case ast.And:
		return m.either(e, ifSo)
	case ast.Or:
		return m.either(e, ifNot)
	}
	return m.whole(e)
}

// variable is what a name is in the call, or a global's word, if it is nothing there.
func (m *maker) variable(name string) int {
	if v, ok := m.vals[name]; ok {
		return v
	}
	return m.value(ssa.Ins{Op: ssa.Get, Arr: m.info.Globals[name]})
}

// either has its second Kid reckoned on that way alone; on the other one the first is the answer.
func (m *maker) either(e ast.Expr, on int) int {
	first := m.expr(e.Kids[0])
	done := m.fork(first, on)
	second := m.expr(e.Kids[1])
	return m.meet([]way{done, m.loose()}, []int{first}, []int{second})[0]
}

// whole is an expression that has all its Kids reckoned.
func (m *maker) whole(e ast.Expr) int {
	var kids []int
	for _, kid := range e.Kids {
		kids = append(kids, m.expr(kid))
	}
	switch e.Kind {
	case ast.Index:
		arr := m.within(e.Name, kids[0])
		return m.value(ssa.Ins{Op: ssa.Load, Arr: arr}, kids...)
	case ast.Call:
		return m.value(ssa.Ins{Op: ssa.Call, Fn: m.info.Funcs[e.Name]}, kids...)
	case ast.Both:
		return m.both(e.Op, kids...)
	}
	return m.both(word.Sub, m.number(1), kids[0])
}

// both branches by what it divides by, as it is: that leaks whether it is 0, and nothing needs to be reckoned for it.
func (m *maker) both(o word.Op, sides ...int) int {
	if o.Divides() {
		m.must(sides[1], api.Zero)
	}
	return m.value(ssa.Ins{Op: ssa.Bin, Bin: o}, sides...)
}

// within lays that an index is within an array, and tells which one that is.
func (m *maker) within(name string, at int) int {
	arr := m.info.Globals[name]
	size := m.number(int64(m.globals[arr].Size))
	m.must(m.both(word.Below, at, size), api.Bounds)
	return arr
}
