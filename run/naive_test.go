package run_test

import (
	"palings/api"
	"palings/ast"
	"palings/run"
	"palings/word"
)

// naive does what the chapter says, sentence by sentence, on trees that are right. It goes down into parts by calls of its own, and comes out of a run by a panic.
type naive struct {
	p    ast.Prog
	fuel int
	deep int
	r    run.Result
}

// binding is a name, and what it is now.
type binding struct {
	name string
	is   *int64
}

type tooMuch struct{}

// expected is what a run is to answer.
func expected(p ast.Prog, in [][]int64, fuel int) (r run.Result, e api.Errno) {
	n := &naive{p: p, fuel: max(fuel, 0)}
	k := 0
	for _, g := range p.Globals {
		words := make([]int64, max(g.Size, 1))
		if g.Hold != ast.Own {
			for i := range words {
				if k < len(in) && i < len(in[k]) {
					words[i] = in[k][i]
				}
			}
			k++
		}
		n.r.Mem = append(n.r.Mem, words)
	}
	defer func() {
		switch end := recover().(type) {
		case nil:
		case tooMuch:
			r, e = run.Result{}, api.ErrSteps
		case api.Trap:
			r, e = n.r, api.OK
			r.Trap = end
		default:
			panic(end)
		}
	}()
	n.r.Val = n.call("main", nil)
	return n.r, api.OK
}

func (n *naive) step() {
	n.r.Steps++
	if n.r.Steps > n.fuel {
		panic(tooMuch{})
	}
}

func (n *naive) leak(k api.Kind, a, b int64) {
	n.r.Leaks = append(n.r.Leaks, api.Leak{Kind: k, A: a, B: b})
}

func (n *naive) must(so bool, t api.Trap) {
	n.leak(api.LeakBranch, word.Bool(so), 0)
	if !so {
		panic(t)
	}
}

func (n *naive) way(v int64) bool {
	n.leak(api.LeakBranch, word.Bool(v != 0), 0)
	return v != 0
}

func (n *naive) call(name string, args []int64) int64 {
	for _, f := range n.p.Funcs {
		if f.Name != name {
			continue
		}
		n.deep++
		if n.deep > 2000 {
			panic(tooMuch{})
		}
		n.r.Deep = max(n.r.Deep, n.deep)
		var env []binding
		for i, param := range f.Params {
			env = append(env, binding{param, &args[i]})
		}
		v, _ := n.block(f.Body, env)
		n.deep--
		return v
	}
	panic("no function " + name)
}

// block tells the value of a Return, and whether there was one.
func (n *naive) block(list []ast.Stmt, env []binding) (int64, bool) {
	for _, s := range list {
		n.step()
		v := n.expr(s.E[0], env)
		switch s.Does {
		case ast.Let:
			env = append(env[:len(env):len(env)], binding{s.Name, &v})
		case ast.Set:
			*n.variable(s.Name, env) = v
		case ast.Put:
			second := n.expr(s.E[1], env)
			*n.item(s.Name, v) = second
		case ast.If:
			which := s.Else
			if n.way(v) {
				which = s.Then
			}
			if v, ok := n.block(which, env); ok {
				return v, true
			}
		case ast.While:
			for ; n.way(v); v = n.expr(s.E[0], env) {
				if v, ok := n.block(s.Then, env); ok {
					return v, true
				}
			}
		case ast.Return:
			return v, true
		}
	}
	return 0, false
}

func (n *naive) variable(name string, env []binding) *int64 {
	for i := len(env) - 1; i >= 0; i-- {
		if env[i].name == name {
			return env[i].is
		}
	}
	return &n.global(name)[0]
}

func (n *naive) global(name string) []int64 {
	for i, g := range n.p.Globals {
		if g.Name == name {
			return n.r.Mem[i]
		}
	}
	panic("no global " + name)
}

func (n *naive) item(name string, i int64) *int64 {
	words := n.global(name)
	n.must(i >= 0 && i < int64(len(words)), api.Bounds)
	n.leak(api.LeakIndex, i, 0)
	return &words[i]
}

func (n *naive) expr(e ast.Expr, env []binding) int64 {
	n.step()
	switch e.Kind {
	case ast.Num:
		return e.Num
	case ast.Truth:
		return word.Bool(e.Num != 0)
	case ast.Var:
		return *n.variable(e.Name, env)
	case ast.And, ast.Or:
		first := n.expr(e.Kids[0], env)
		if n.way(first) == (e.Kind == ast.Or) {
			return first
		}
		return n.expr(e.Kids[1], env)
	}
	var kids []int64
	for _, kid := range e.Kids {
		kids = append(kids, n.expr(kid, env))
	}
	switch e.Kind {
	case ast.Index:
		return *n.item(e.Name, kids[0])
	case ast.Call:
		return n.call(e.Name, kids)
	case ast.Not:
		return 1 - kids[0]
	}
	if e.Op == word.Div || e.Op == word.Mod {
		n.must(kids[1] != 0, api.Zero)
		n.leak(api.LeakDiv, kids[0], kids[1])
	}
	v, _ := word.Do(e.Op, kids[0], kids[1])
	return v
}
