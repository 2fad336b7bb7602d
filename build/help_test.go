package build_test

import (
	"fmt"
	"math"
	"reflect"
	"strings"
	"testing"

	"palings/api"
	"palings/ast"
	"palings/build"
	"palings/parse"
	"palings/run"
	"palings/sim"
	"palings/ssa"
	"palings/word"
)

const (
	plenty = 1 << 20
	least  = math.MinInt64
	most   = math.MaxInt64
)

func parsed(t *testing.T, s string) ast.Prog {
	t.Helper()
	p, fault := parse.Program(s)
	if fault.E != api.OK {
		t.Fatal(s, fault)
	}
	return p
}

// built is the blocks of a program that has some, which are right.
func built(t *testing.T, p ast.Prog) ssa.Prog {
	t.Helper()
	q, e := build.Program(p)
	if e != api.OK {
		t.Fatalf("error %d of\n%s", e, p.Text())
	}
	if e = q.Check(); e != api.OK {
		t.Fatalf("the blocks have the error %d: %+v\nof\n%s", e, q, p.Text())
	}
	return q
}

// told is leaks as a text: b1 is a branch that goes the way 1, i3 an index, d7,2 a division.
func told(leaks []api.Leak) string {
	var out []string
	for _, l := range leaks {
		switch {
		case l.Kind == api.LeakBranch && l.B == 0:
			out = append(out, fmt.Sprint("b", l.A))
		case l.Kind == api.LeakIndex && l.B == 0:
			out = append(out, fmt.Sprint("i", l.A))
		case l.Kind == api.LeakDiv:
			out = append(out, fmt.Sprintf("d%d,%d", l.A, l.B))
		default:
			out = append(out, fmt.Sprint("?", l))
		}
	}
	return strings.Join(out, " ")
}

// bound is how many steps blocks may take for so many of the program.
func bound(steps int) int { return 6*steps + 10 }

// alike runs a program and its blocks, of fuel of which they have just as much as they may take, and holds all that comes of them against each other.
func alike(t *testing.T, p ast.Prog, q ssa.Prog, in [][]int64, fuel int) (run.Result, api.Errno) {
	t.Helper()
	before := fmt.Sprint(in)
	a, e := run.Run(p, in, fuel)
	if e != api.OK {
		return a, e
	}
	b, g := sim.Run(q, in, bound(a.Steps))
	if g != api.OK || b.Steps > bound(a.Steps) {
		t.Fatalf("in %v: the blocks' error is %d within %d steps, of %d steps of\n%s", in, g, bound(a.Steps), a.Steps, p.Text())
	}
	if b.Val != a.Val || b.Trap != a.Trap || b.Deep != a.Deep || told(b.Leaks) != told(a.Leaks) || !reflect.DeepEqual(b.Mem, a.Mem) {
		t.Fatalf("in %v: the blocks have val %d trap %d deep %d leaks %s words %v\nwant %d %d %d %s %v of\n%s",
			in, b.Val, b.Trap, b.Deep, told(b.Leaks), b.Mem, a.Val, a.Trap, a.Deep, told(a.Leaks), a.Mem, p.Text())
	}
	if fmt.Sprint(in) != before {
		t.Fatal("the inputs were changed")
	}
	return a, e
}

// do is a program, what it is given, and what comes of its blocks: value, trap, leaks.
type do struct {
	text  string
	in    [][]int64
	val   int64
	trap  api.Trap
	leaks string
}

func (c do) try(t *testing.T) {
	t.Helper()
	c.tryTree(t, parsed(t, c.text))
}

func (c do) tryTree(t *testing.T, p ast.Prog) {
	t.Helper()
	q := built(t, p)
	r, e := sim.Run(q, c.in, plenty)
	if e != api.OK || r.Val != c.val || r.Trap != c.trap || told(r.Leaks) != c.leaks {
		t.Errorf("%s\n%v: error %d, val %d trap %d leaks %s\nwant %d %d %s", p.Text(), c.in, e, r.Val, r.Trap, told(r.Leaks), c.val, c.trap, c.leaks)
	}
	alike(t, p, q, c.in, plenty)
}

func one(words ...int64) [][]int64 {
	var in [][]int64
	for _, w := range words {
		in = append(in, []int64{w})
	}
	return in
}

func num(n int64) ast.Expr { return ast.Expr{Kind: ast.Num, Num: n} }

func truth(n int64) ast.Expr { return ast.Expr{Kind: ast.Truth, Num: n} }

func variable(name string) ast.Expr { return ast.Expr{Kind: ast.Var, Name: name} }

func of(k ast.Kind, kids ...ast.Expr) ast.Expr { return ast.Expr{Kind: k, Kids: kids} }

func both(o word.Op, a, b ast.Expr) ast.Expr {
	return ast.Expr{Kind: ast.Both, Op: o, Kids: []ast.Expr{a, b}}
}

func index(name string, at ast.Expr) ast.Expr {
	return ast.Expr{Kind: ast.Index, Name: name, Kids: []ast.Expr{at}}
}

func does(d ast.Does, name string, e ...ast.Expr) ast.Stmt {
	return ast.Stmt{Does: d, Name: name, E: e}
}

// around is a program of these statements alone.
func around(body ...ast.Stmt) ast.Prog {
	return ast.Prog{Funcs: []ast.Func{{Name: "main", Body: body}}}
}
