package build_test

import (
	"math"
	"math/rand"
	"reflect"
	"strings"
	"testing"

	"palings/api"
	"palings/ast"
	"palings/lex"
	"palings/parse"
)

// The blocks don't hang on where a program's parts stand in its text.
func TestBlanks(t *testing.T) {
	between := []string{" ", "\n", "\t", "\r\n", "   \n\n ", " // let x = 1;\n"}
	for seed := range int64(300) {
		p, _ := made(seed)
		p, fault := parse.Program(writable(p).Text())
		if fault.E == api.ErrNumber { // the least word can't be written
			continue
		}
		r := rand.New(rand.NewSource(seed))
		tokens, _ := lex.All(p.Text())
		var other strings.Builder
		for _, token := range tokens {
			other.WriteString(token.Text + between[r.Intn(len(between))])
		}
		q := parsed(t, other.String())
		if !q.Same(p) {
			t.Fatal("seed", seed, other.String())
		}
		if !reflect.DeepEqual(built(t, p), built(t, q)) {
			t.Fatal("seed", seed, other.String())
		}
	}
}

// writable is a program without what no text has: Runs of others than Calls.
func writable(p ast.Prog) ast.Prog {
	for i := range p.Funcs {
		p.Funcs[i].Body = writableBlock(p.Funcs[i].Body)
	}
	return p
}

func writableBlock(list []ast.Stmt) []ast.Stmt {
	var out []ast.Stmt
	for _, s := range list {
		s.Then, s.Else = writableBlock(s.Then), writableBlock(s.Else)
		if s.Does == ast.While {
			s.Else = nil
		}
		if s.Does != ast.Run || s.E[0].Kind == ast.Call {
			out = append(out, s)
		}
	}
	return out
}

func TestOddPlaces(t *testing.T) {
	for seed := range int64(300) {
		p, _ := made(seed)
		want := built(t, p)
		for range 3 {
			if !reflect.DeepEqual(built(t, placed(p, rand.New(rand.NewSource(seed)))), want) {
				t.Fatal("seed", seed)
			}
		}
	}
}

// placed is a program with places that no text gives.
func placed(p ast.Prog, r *rand.Rand) ast.Prog {
	odd := func() api.Pos {
		some := []int{0, -1, 1, 2, math.MinInt, math.MaxInt, r.Int()}
		return api.Pos{Line: some[r.Intn(len(some))], Col: some[r.Intn(len(some))]}
	}
	var expr func(e ast.Expr) ast.Expr
	exprs := func(list []ast.Expr) []ast.Expr {
		var out []ast.Expr
		for _, e := range list {
			out = append(out, expr(e))
		}
		return out
	}
	expr = func(e ast.Expr) ast.Expr {
		e.At, e.Kids = odd(), exprs(e.Kids)
		return e
	}
	var block func(list []ast.Stmt) []ast.Stmt
	block = func(list []ast.Stmt) []ast.Stmt {
		var out []ast.Stmt
		for _, s := range list {
			s.At, s.E, s.Then, s.Else = odd(), exprs(s.E), block(s.Then), block(s.Else)
			out = append(out, s)
		}
		return out
	}
	var q ast.Prog
	for _, g := range p.Globals {
		g.At = odd()
		q.Globals = append(q.Globals, g)
	}
	for _, f := range p.Funcs {
		f.At, f.Body = odd(), block(f.Body)
		q.Funcs = append(q.Funcs, f)
	}
	return q
}
