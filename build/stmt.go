package build

import (
	"palings/ast"
	"palings/ssa"
)

// block lays statements, as far as they can be come to, and forgets at its end what was let in it.
func (m *maker) block(list []ast.Stmt, t []turns) {
	for i, s := range list {
		if !m.comes() {
			break
		}
		m.stmt(s, t[i])
	}
	m.forget(list)
}

func (m *maker) stmt(s ast.Stmt, t turns) {
	switch s.Does {
	case ast.Let:
		m.turn(s.Name, m.expr(s.E[0]))
	case ast.Set:
		m.set(s.Name, m.expr(s.E[0]))
	case ast.Put:
		m.put(s)
	case ast.If:
		m.choice(s, t)
	case ast.While:
		m.loop(s, t)
	case ast.Return:
		m.leave(m.expr(s.E[0]))
	case ast.Run:
		m.expr(s.E[0])
	}
}

// set turns what a name is in the call, or a global's word, if it is nothing there.
func (m *maker) set(name string, v int) {
	if _, ok := m.vals[name]; ok {
		m.turn(name, v)
		return
	}
	m.add(ssa.Ins{Op: ssa.Set, Arr: m.info.Globals[name]}, v)
}

// put asks whether its index is within behind its value: that may leak, or trap, ahead of it.
func (m *maker) put(s ast.Stmt) {
	at := m.expr(s.E[0])
	v := m.expr(s.E[1])
	arr := m.within(s.Name, at)
	m.add(ssa.Ins{Op: ssa.Store, Arr: arr}, at, v)
}

func (m *maker) choice(s ast.Stmt, t turns) {
	other := m.fork(m.expr(s.E[0]), ifSo)
	sides := m.side(s.Then, t.then)
	if len(s.Else) == 0 {
		sides = append(sides, side{way: other})
	} else {
		m.follow(other)
		sides = append(sides, m.side(s.Else, t.other)...)
	}
	m.together(sides...)
}

// side lays one way of a choice, and lets the names be what they were ahead of it; it tells none, if its end isn't come to.
func (m *maker) side(list []ast.Stmt, t []turns) []side {
	then := m.now()
	m.block(list, t)
	turned := m.back(then)
	if !m.comes() {
		return nil
	}
	return []side{{m.loose(), turned}}
}

// together lays on where all sides meet, if there are any.
func (m *maker) together(sides ...side) {
	list := turnedOn(sides...)
	var ways []way
	var lists [][]int
	for _, s := range sides {
		ways = append(ways, s.way)
		lists = append(lists, m.valuesOn(s, list))
	}
	var values []int
	switch len(sides) {
	case 0:
		return
	case 1:
		m.follow(ways[0])
		values = lists[0]
	default:
		values = m.meet(ways, lists...)
	}
	for i, name := range list {
		m.turn(name, values[i])
	}
}

// loop lays a block that is come to each time ahead of the truth: its parameters are the names that may be others when it is come back to. An Else, which no text gives a While, has no way on which it would be run.
func (m *maker) loop(s ast.Stmt, t turns) {
	list := m.known(t.names)
	in := m.loose()
	top := m.begin()
	m.lead(in, top, m.values(list)...)
	for _, name := range list {
		m.turn(name, m.param(top))
	}
	then := m.now()
	out := m.fork(m.expr(s.E[0]), ifSo)
	m.block(s.Then, t.then)
	if m.comes() {
		m.lead(m.loose(), top, m.values(list)...)
	}
	m.back(then)
	m.follow(out)
}
