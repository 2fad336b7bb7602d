package run_test

import (
	"fmt"
	"strings"
	"testing"

	"palings/api"
	"palings/ast"
	"palings/parse"
	"palings/run"
	"palings/word"
)

const plenty = 1 << 30

func parsed(t *testing.T, s string) ast.Prog {
	t.Helper()
	p, fault := parse.Program(s)
	if fault.E != api.OK {
		t.Fatal(s, fault)
	}
	return p
}

// told is leaks as a text: b1 is a branch that goes the way 1, i3 an index, d7,2 a division.
func told(leaks []api.Leak) string {
	var out []string
	for _, l := range leaks {
		switch {
		case l.Kind == api.LeakBranch && l.B == 0:
			out = append(out, fmt.Sprint("b", l.A))
		case l.Kind == api.LeakIndex && l.B == 0:
			out = append(out, fmt.Sprint("i", l.A))
		case l.Kind == api.LeakDiv:
			out = append(out, fmt.Sprintf("d%d,%d", l.A, l.B))
		default:
			out = append(out, fmt.Sprint("?", l))
		}
	}
	return strings.Join(out, " ")
}

// whole is all of a result but its words, as a text.
func whole(r run.Result) string {
	return fmt.Sprintf("val %d trap %d steps %d deep %d leaks %s", r.Val, r.Trap, r.Steps, r.Deep, told(r.Leaks))
}

// do is a program, what it is given, and what comes of it: value, trap, steps, leaks.
type do struct {
	text  string
	in    [][]int64
	val   int64
	trap  api.Trap
	steps int
	leaks string
}

func (c do) try(t *testing.T) {
	t.Helper()
	c.tryTree(t, parsed(t, c.text))
}

func (c do) tryTree(t *testing.T, p ast.Prog) {
	t.Helper()
	r, e := run.Run(p, c.in, plenty)
	if e != api.OK || r.Val != c.val || r.Trap != c.trap || r.Steps != c.steps || told(r.Leaks) != c.leaks {
		t.Errorf("%s\n%v: error %d, %s\nwant val %d trap %d steps %d leaks %s", p.Text(), c.in, e, whole(r), c.val, c.trap, c.steps, c.leaks)
	}
}

func one(words ...int64) [][]int64 {
	var in [][]int64
	for _, w := range words {
		in = append(in, []int64{w})
	}
	return in
}

func num(n int64) ast.Expr { return ast.Expr{Kind: ast.Num, Num: n} }

func truth(n int64) ast.Expr { return ast.Expr{Kind: ast.Truth, Num: n} }

func variable(name string) ast.Expr { return ast.Expr{Kind: ast.Var, Name: name} }

func of(k ast.Kind, kids ...ast.Expr) ast.Expr { return ast.Expr{Kind: k, Kids: kids} }

func both(o word.Op, a, b ast.Expr) ast.Expr {
	return ast.Expr{Kind: ast.Both, Op: o, Kids: []ast.Expr{a, b}}
}

func does(d ast.Does, name string, e ...ast.Expr) ast.Stmt {
	return ast.Stmt{Does: d, Name: name, E: e}
}

// around is a program of a main alone.
func around(body ...ast.Stmt) ast.Prog {
	return ast.Prog{Funcs: []ast.Func{{Name: "main", Body: body}}}
}
