package build_test

import (
	"fmt"
	"testing"

	"palings/api"
	"palings/ast"
	"palings/word"
)

// deepest is what the document lets be nested in one another, less what is around it in these tests.
const deepest = 1<<16 - 8

// nested is an expression, or a statement, laid within itself, by one way after the other.
func nested[T any](core T, deep int, around ...func(T) T) T {
	for i := range deep {
		core = around[i%len(around)](core)
	}
	return core
}

func tryDeep(t *testing.T, what string, p ast.Prog) {
	t.Helper()
	if r, e := alike(t, p, built(t, p), nil, plenty); e != api.OK {
		t.Error(what, e, r.Steps)
	}
}

// tryNests lays each way within itself, and at last all ways within each other, as deep as may be.
func tryNests[T any](t *testing.T, core T, program func(T) ast.Prog, around ...func(T) T) {
	t.Helper()
	for i, one := range around {
		tryDeep(t, fmt.Sprint("way ", i), program(nested(core, 5000, one)))
	}
	tryDeep(t, "all ways", program(nested(core, deepest, around...)))
}

func TestDeepExpressions(t *testing.T) {
	program := func(e ast.Expr) ast.Prog {
		p := parsed(t, "var h[1]; func f(x) { return x; } func main() { return 0; }")
		p.Funcs[1].Body[0].E[0] = e
		return p
	}
	tryNests(t, num(0), program,
		func(e ast.Expr) ast.Expr { return both(word.Mul, e, num(1)) },
		func(e ast.Expr) ast.Expr { return both(word.Sub, num(0), e) },
		func(e ast.Expr) ast.Expr { return both(word.Div, e, num(1)) },
		func(e ast.Expr) ast.Expr { return index("h", e) },
		func(e ast.Expr) ast.Expr { return ast.Expr{Kind: ast.Call, Name: "f", Kids: []ast.Expr{e}} },
	)
}

func TestDeepTruths(t *testing.T) {
	program := func(e ast.Expr) ast.Prog {
		p := parsed(t, "func main() { if true { return 1; } return 2; }")
		p.Funcs[0].Body[0].E[0] = e
		return p
	}
	tryNests(t, truth(1), program,
		func(e ast.Expr) ast.Expr { return of(ast.Not, e) },
		func(e ast.Expr) ast.Expr { return of(ast.And, e, truth(1)) },
		func(e ast.Expr) ast.Expr { return of(ast.And, truth(1), e) },
		func(e ast.Expr) ast.Expr { return of(ast.Or, e, truth(1)) },
		func(e ast.Expr) ast.Expr { return of(ast.Or, truth(0), e) },
	)
}

func TestDeepStatements(t *testing.T) {
	program := func(s ast.Stmt) ast.Prog {
		p := parsed(t, "func main() { let x = 1; x = x + 1; return x; }")
		p.Funcs[0].Body[1] = s
		return p
	}
	asked := both(word.Lt, variable("x"), num(3))
	around := []func(ast.Stmt) ast.Stmt{
		func(s ast.Stmt) ast.Stmt { return ast.Stmt{Does: ast.If, E: []ast.Expr{asked}, Then: []ast.Stmt{s}} },
		func(s ast.Stmt) ast.Stmt { return ast.Stmt{Does: ast.If, E: []ast.Expr{truth(0)}, Else: []ast.Stmt{s}} },
		func(s ast.Stmt) ast.Stmt { return ast.Stmt{Does: ast.While, E: []ast.Expr{asked}, Then: []ast.Stmt{s}} },
	}
	tryNests(t, does(ast.Set, "x", both(word.Add, variable("x"), num(1))), program, around...)
	tryNests(t, does(ast.Return, "", num(7)), program, around...)
}

// A name of its own at each step of a nest is no more to the steps around it.
func TestDeepLets(t *testing.T) {
	for _, d := range []ast.Does{ast.If, ast.While} {
		s, fresh := does(ast.Return, "", num(7)), 0
		s = nested(s, 20000, func(s ast.Stmt) ast.Stmt {
			fresh++
			name := fmt.Sprint("n", fresh)
			turn := does(ast.Set, name, both(word.Add, variable(name), num(1)))
			return ast.Stmt{Does: d, E: []ast.Expr{truth(1)}, Then: []ast.Stmt{does(ast.Let, name, num(0)), s, turn}}
		})
		tryDeep(t, "lets", around(s))
	}
}

// Very many names beside very many choices and loops take no more than what is turned in these.
func TestManyNames(t *testing.T) {
	const many = 20000
	var body []ast.Stmt
	for i := range many {
		name := fmt.Sprint("n", i)
		body = append(body, does(ast.Let, name, num(int64(i))))
		if i+1 == many {
			continue
		}
		s := does(ast.If, "", both(word.Lt, variable(name), num(9)))
		s.Then = []ast.Stmt{does(ast.Set, name, num(5))}
		w := does(ast.While, "", both(word.Lt, variable(name), num(10)))
		w.Then = []ast.Stmt{does(ast.Set, name, both(word.Add, variable(name), num(1)))}
		body = append(body, s, w)
	}
	for i := range many {
		body = append(body, does(ast.Set, "n0", both(word.Add, variable("n0"), variable(fmt.Sprint("n", i)))))
	}
	p := around(append(body, does(ast.Return, "", variable("n0")))...)
	q := built(t, p)
	if got := params(q); got != 2*(many-1) {
		t.Error(got, "parameters")
	}
	alike(t, p, q, nil, 1<<24)
}
