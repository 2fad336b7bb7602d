package ast_test

import (
	"math"
	"strings"
	"testing"

	"palings/ast"
	"palings/word"
)

func num(n int64) ast.Expr { return ast.Expr{Kind: ast.Num, Num: n} }

func name(s string) ast.Expr { return ast.Expr{Kind: ast.Var, Name: s} }

func of(k ast.Kind, kids ...ast.Expr) ast.Expr { return ast.Expr{Kind: k, Name: "n", Kids: kids} }

func both(o word.Op, kids ...ast.Expr) ast.Expr {
	return ast.Expr{Kind: ast.Both, Op: o, Kids: kids}
}

// written is the signs of the ops, from Add on, as the document lists them.
var written = strings.Fields("+ - * / % & | ^ << >> == != < <=")

func TestSign(t *testing.T) {
	for i, want := range written {
		if got := ast.Sign(word.Add + word.Op(i)); got != want {
			t.Errorf("%v: %q, not %q", word.Add+word.Op(i), got, want)
		}
	}
	for _, o := range []word.Op{word.Below, word.Below + 1, 0, -1, math.MinInt, math.MaxInt} {
		if got := ast.Sign(o); got != "" {
			t.Errorf("%d: %q", o, got)
		}
	}
}

func TestTextOfExpressions(t *testing.T) {
	a, b, c := name("a"), num(1), num(2)
	for _, x := range []struct {
		e    ast.Expr
		want string
	}{
		{both(word.Add, b, a), "(1 + a)"},
		{num(0), "0"},
		{num(math.MaxInt64), "9223372036854775807"},
		{num(math.MinInt64), "-9223372036854775808"},
		{ast.Expr{Kind: ast.Num, Num: 5, Name: "n", Kids: []ast.Expr{a}}, "5"},
		{ast.Expr{Kind: ast.Truth, Num: 1}, "true"},
		{ast.Expr{Kind: ast.Truth}, "false"},
		{ast.Expr{Kind: ast.Truth, Num: 2}, "true"},
		{ast.Expr{Kind: ast.Truth, Num: -1, Kids: []ast.Expr{a}}, "true"},
		{of(ast.Var), "n"},
		{of(ast.Var, a), "n"},
		{ast.Expr{Kind: ast.Var}, ""},
		{of(ast.Call), "n()"},
		{of(ast.Call, a), "n(a)"},
		{of(ast.Call, a, b, c), "n(a, 1, 2)"},
		{of(ast.Index), "?"},
		{of(ast.Index, a), "n[a]"},
		{of(ast.Index, a, b), "n[a]"},
		{of(ast.Not), "?"},
		{of(ast.Not, a), "!a"},
		{of(ast.Not, a, b), "!a"},
		{of(ast.And), "?"},
		{of(ast.And, a, b), "(a && 1)"},
		{of(ast.Or), "?"},
		{of(ast.Or, a, b), "(a || 1)"},
		{both(word.Add), "?"},
		{both(word.Add, a), "(a + a)"},
		{both(word.Add, a, b, c), "(a + 2)"},
		{both(word.Below, a, b), "(a  1)"},
		{both(0, a, b), "(a  1)"},
		{both(-3, a, b), "(a  1)"},
		{of(ast.And, a, b, c), "(a && 2)"},
		{of(ast.Or, a), "(a || a)"},
		{ast.Expr{Kind: ast.And, Op: word.Add, Kids: []ast.Expr{a, b}}, "(a && 1)"},
		{ast.Expr{}, "?"},
		{of(0), "?"},
		{of(-1), "?"},
		{of(ast.Not + 1), "?"},
		{of(math.MaxInt), "?"},
		{of(0, a, b), "(a  1)"},
		{ast.Expr{Kind: ast.Not + 1, Op: word.Shr, Kids: []ast.Expr{a, b, c}}, "(a >> 2)"},
		{ast.Expr{Kind: -7, Op: word.Ne, Kids: []ast.Expr{a}}, "(a != a)"},
		{of(ast.Not, of(ast.And, of(ast.Call, of(ast.Index, both(word.Mod, a, c))), of(ast.Not))), "!(n(n[(a % 2)]) && ?)"},
	} {
		if got := x.e.Text(); got != x.want {
			t.Errorf("%q, not %q", got, x.want)
		}
	}
	for i, sign := range written {
		if got := both(word.Add+word.Op(i), a, b).Text(); got != "(a "+sign+" 1)" {
			t.Errorf("%q of %q", got, sign)
		}
	}
}

// TestTextOfDeepExpressions takes the most parts that may be nested in one another: to copy them level by level would take minutes.
func TestTextOfDeepExpressions(t *testing.T) {
	const deep = 1 << 16
	e, f := name("a"), name("a")
	for range deep - 1 {
		e, f = of(ast.Not, e), of(ast.Not, f)
	}
	if got := e.Text(); got != strings.Repeat("!", deep-1)+"a" {
		t.Error(len(got))
	}
	if !e.Same(f) || e.Same(of(ast.Not, f)) {
		t.Error("deep expressions aren't held against each other to their end")
	}
	left := name("a")
	for range deep - 1 {
		left = both(word.Add, left, num(1))
	}
	if got := left.Text(); got != strings.Repeat("(", deep-1)+"a"+strings.Repeat(" + 1)", deep-1) {
		t.Error(len(got))
	}
}

func does(d ast.Does, e ...ast.Expr) ast.Stmt { return ast.Stmt{Does: d, Name: "n", E: e} }

func blocks(d ast.Does, e []ast.Expr, then, other []ast.Stmt) ast.Stmt {
	return ast.Stmt{Does: d, Name: "n", E: e, Then: then, Else: other}
}

func TestTextOfStatements(t *testing.T) {
	a, b, c := name("a"), num(1), num(2)
	run := []ast.Stmt{does(ast.Run, of(ast.Call))}
	two := []ast.Stmt{does(ast.Set, a), does(ast.Return, b)}
	for _, x := range []struct {
		s    ast.Stmt
		deep int
		want string
	}{
		{does(ast.Let, a), 0, "let n = a;\n"},
		{does(ast.Let, a, b), 1, "\tlet n = a;\n"},
		{does(ast.Let), 0, "let n = ?;\n"},
		{does(ast.Set, both(word.Add, a, b)), 0, "n = (a + 1);\n"},
		{does(ast.Set), 2, "\t\tn = ?;\n"},
		{does(ast.Put, a, b), 0, "n[a] = 1;\n"},
		{does(ast.Put, a, b, c), 3, "\t\t\tn[a] = 1;\n"},
		{does(ast.Put, a), 0, "n[a] = ?;\n"},
		{does(ast.Put), 0, "n[?] = ?;\n"},
		{does(ast.Return, a), 1, "\treturn a;\n"},
		{does(ast.Return), 0, "return ?;\n"},
		{does(ast.Run, of(ast.Call, a)), 1, "\tn(a);\n"},
		{does(ast.Run), 0, "?;\n"},
		{does(0, a), 1, "\ta;\n"},
		{does(-1, a, b), 0, "a;\n"},
		{does(ast.Run+1, a), 0, "a;\n"},
		{does(math.MaxInt), 0, "?;\n"},
		{ast.Stmt{}, 1, "\t?;\n"},
		{does(ast.If), 0, "if ? {\n}\n"},
		{does(ast.While), 1, "\twhile ? {\n\t}\n"},
		{blocks(ast.If, []ast.Expr{a}, two, nil), 0, "if a {\n\tn = a;\n\treturn 1;\n}\n"},
		{blocks(ast.If, []ast.Expr{a}, two, []ast.Stmt{}), 0, "if a {\n\tn = a;\n\treturn 1;\n}\n"},
		{blocks(ast.If, []ast.Expr{a}, run, two), 1, "\tif a {\n\t\tn();\n\t} else {\n\t\tn = a;\n\t\treturn 1;\n\t}\n"},
		{blocks(ast.If, []ast.Expr{a}, nil, run), 0, "if a {\n} else {\n\tn();\n}\n"},
		{blocks(ast.While, []ast.Expr{a, b}, two, nil), 2, "\t\twhile a {\n\t\t\tn = a;\n\t\t\treturn 1;\n\t\t}\n"},
		{blocks(ast.While, []ast.Expr{a}, run, run), 0, "while a {\n\tn();\n} else {\n\tn();\n}\n"},
		{blocks(ast.If, []ast.Expr{a}, nil, []ast.Stmt{blocks(ast.If, []ast.Expr{b}, run, nil)}), 0, "if a {\n} else {\n\tif 1 {\n\t\tn();\n\t}\n}\n"},
		{does(ast.Let, a), -1, "let n = a;\n"},
		{blocks(ast.If, []ast.Expr{a}, run, run), -5, "if a {\n\tn();\n} else {\n\tn();\n}\n"},
		{blocks(ast.While, []ast.Expr{a}, run, nil), math.MinInt, "while a {\n\tn();\n}\n"},
	} {
		if got := x.s.Text(x.deep); got != x.want {
			t.Errorf("%q, not %q", got, x.want)
		}
	}
}

func TestTextOfPrograms(t *testing.T) {
	body := []ast.Stmt{does(ast.Let, num(1)), blocks(ast.While, []ast.Expr{name("a")}, []ast.Stmt{does(ast.Run)}, nil)}
	for _, x := range []struct {
		p    ast.Prog
		want string
	}{
		{ast.Prog{}, ""},
		{globals(ast.Global{Name: "g", Hold: ast.Own}), "var g;\n"},
		{globals(ast.Global{Name: "g", Hold: ast.Open}), "public g;\n"},
		{globals(ast.Global{Name: "g", Hold: ast.Closed}), "secret g;\n"},
		{globals(ast.Global{Name: "g", Hold: -1}), "var g;\n"},
		{globals(ast.Global{Name: "g", Hold: math.MinInt}), "var g;\n"},
		{globals(ast.Global{Name: "g", Hold: ast.Closed + 1}), "secret g;\n"},
		{globals(ast.Global{Name: "g", Hold: math.MaxInt}), "secret g;\n"},
		{globals(ast.Global{Name: "g", Size: 1}), "var g[1];\n"},
		{globals(ast.Global{Name: "g", Size: 0}), "var g;\n"},
		{globals(ast.Global{Name: "g", Size: -1}), "var g;\n"},
		{globals(ast.Global{Name: "g", Size: math.MinInt}), "var g;\n"},
		{globals(ast.Global{Name: "g", Hold: ast.Open, Size: 4097}), "public g[4097];\n"},
		{globals(ast.Global{Name: "g", Size: math.MaxInt}), "var g[9223372036854775807];\n"},
		{globals(ast.Global{Name: "b"}, ast.Global{Name: "a", Hold: ast.Closed, Size: 8}), "var b;\nsecret a[8];\n"},
		{ast.Prog{Funcs: []ast.Func{{Name: "f"}}}, "func f() {\n}\n"},
		{ast.Prog{Funcs: []ast.Func{{Name: "f", Params: []string{"a"}}}}, "func f(a) {\n}\n"},
		{ast.Prog{Funcs: []ast.Func{{Name: "f", Params: []string{"a", "b", "c"}}}}, "func f(a, b, c) {\n}\n"},
		{
			ast.Prog{Globals: []ast.Global{{Name: "g"}}, Funcs: []ast.Func{{Name: "f", Body: body}, {Name: "main"}}},
			"var g;\nfunc f() {\n\tlet n = 1;\n\twhile a {\n\t\t?;\n\t}\n}\nfunc main() {\n}\n",
		},
	} {
		if got := x.p.Text(); got != x.want {
			t.Errorf("%q, not %q", got, x.want)
		}
	}
}

func globals(g ...ast.Global) ast.Prog { return ast.Prog{Globals: g} }
