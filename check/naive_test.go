package check_test

import (
	"slices"

	"palings/api"
	"palings/ast"
	"palings/check"
	"palings/lex"
	"palings/word"
)

// naive lays down all that the chapter says against a program, sentence by sentence, in its order. What is known is a list that is handed on and never taken back.
type naive struct {
	p   ast.Prog
	all []lex.Fault
}

type local struct {
	name string
	t    check.Type
}

// firstFault is what the program is to answer.
func firstFault(p ast.Prog) lex.Fault {
	n := &naive{p: p}
	n.program()
	if len(n.all) == 0 {
		return lex.Fault{}
	}
	return n.all[0]
}

func (n *naive) say(bad bool, e api.Errno, at api.Pos) {
	if bad {
		n.all = append(n.all, lex.Fault{E: e, At: at})
	}
}

func (n *naive) program() {
	p := n.p
	holds := []ast.Hold{ast.Own, ast.Open, ast.Closed}
	for _, g := range p.Globals {
		n.say(g.Size < 0 || 4096 < g.Size || !slices.Contains(holds, g.Hold), api.ErrBad, g.At)
	}
	named := func(name string) func(ast.Global) bool {
		return func(g ast.Global) bool { return g.Name == name }
	}
	called := func(name string) func(ast.Func) bool {
		return func(f ast.Func) bool { return f.Name == name }
	}
	for i, g := range p.Globals {
		n.say(slices.ContainsFunc(p.Globals[:i], named(g.Name)), api.ErrTwice, g.At)
		n.say(i == 64, api.ErrMany, g.At)
	}
	for i, f := range p.Funcs {
		n.say(slices.ContainsFunc(p.Funcs[:i], called(f.Name)) || slices.ContainsFunc(p.Globals, named(f.Name)), api.ErrTwice, f.At)
		n.say(i == 256 || len(f.Params) > 6, api.ErrMany, f.At)
	}
	for _, f := range p.Funcs {
		var env []local
		for _, name := range f.Params {
			n.say(n.known(name, env), api.ErrTwice, f.At)
			env = append(env, local{name, check.Int})
		}
		n.block(f.Body, env)
	}
	i := slices.IndexFunc(p.Funcs, called("main"))
	n.say(i < 0 || len(p.Funcs[max(i, 0)].Params) > 0, api.ErrMain, api.Pos{Line: 1, Col: 1})
}

func (n *naive) known(name string, env []local) bool {
	return slices.ContainsFunc(env, func(l local) bool { return l.name == name }) ||
		slices.ContainsFunc(n.p.Globals, func(g ast.Global) bool { return g.Name == name }) ||
		slices.ContainsFunc(n.p.Funcs, func(f ast.Func) bool { return f.Name == name })
}

func (n *naive) typeOf(name string, env []local) (check.Type, bool) {
	for _, l := range env {
		if l.name == name {
			return l.t, true
		}
	}
	for _, g := range n.p.Globals {
		if g.Name == name && g.Size == 0 {
			return check.Int, true
		}
	}
	return check.None, false
}

func (n *naive) array(name string) bool {
	return slices.ContainsFunc(n.p.Globals, func(g ast.Global) bool { return g.Name == name && g.Size > 0 })
}

func (n *naive) block(list []ast.Stmt, env []local) {
	env = slices.Clone(env)
	for _, s := range list {
		if s.Does != ast.Let || len(s.E) == 0 {
			n.stmt(s, env)
			continue
		}
		t := n.expr(s.E[0], env)
		n.say(n.known(s.Name, env), api.ErrTwice, s.At)
		env = append(env, local{s.Name, t})
	}
}

func (n *naive) stmt(s ast.Stmt, env []local) {
	var types []check.Type
	switch s.Does {
	case ast.Let:
		types = []check.Type{check.None}
	case ast.Set:
		t, ok := n.typeOf(s.Name, env)
		n.say(!ok, api.ErrName, s.At)
		types = []check.Type{t}
	case ast.Put:
		n.say(!n.array(s.Name), api.ErrName, s.At)
		types = []check.Type{check.Int, check.Int}
	case ast.If, ast.While:
		types = []check.Type{check.Bool}
	case ast.Return, ast.Run:
		types = []check.Type{check.Int}
	default:
		n.say(true, api.ErrBad, s.At)
	}
	for i, t := range types {
		if i == len(s.E) {
			n.say(true, api.ErrBad, s.At)
			break
		}
		n.must(s.E[i], t, env)
	}
	if s.Does == ast.If || s.Does == ast.While {
		n.block(s.Then, env)
		n.block(s.Else, env)
	}
}

func (n *naive) must(e ast.Expr, t check.Type, env []local) {
	got := n.expr(e, env)
	n.say(got != t, api.ErrType, e.At)
}

func (n *naive) expr(e ast.Expr, env []local) check.Type {
	kids, each, out := -1, check.Int, check.Int
	switch e.Kind {
	case ast.Num:
		return check.Int
	case ast.Truth:
		return check.Bool
	case ast.Var:
		t, ok := n.typeOf(e.Name, env)
		n.say(!ok, api.ErrName, e.At)
		return t
	case ast.Index:
		n.say(!n.array(e.Name), api.ErrName, e.At)
		kids = 1
	case ast.Call:
		i := slices.IndexFunc(n.p.Funcs, func(f ast.Func) bool { return f.Name == e.Name })
		n.say(i < 0, api.ErrName, e.At)
		n.say(i >= 0 && len(n.p.Funcs[max(i, 0)].Params) != len(e.Kids), api.ErrCount, e.At)
	case ast.Both:
		kids = 2
		if slices.Contains([]word.Op{word.Eq, word.Ne, word.Lt, word.Le}, e.Op) {
			out = check.Bool
		}
	case ast.And, ast.Or:
		kids, each, out = 2, check.Bool, check.Bool
	case ast.Not:
		kids, each, out = 1, check.Bool, check.Bool
	default:
		n.say(true, api.ErrBad, e.At)
	}
	n.say(kids >= 0 && kids != len(e.Kids), api.ErrBad, e.At)
	for _, k := range e.Kids {
		n.must(k, each, env)
	}
	n.say(e.Kind == ast.Both && (e.Op < word.Add || e.Op > word.Le), api.ErrBad, e.At)
	return out
}
