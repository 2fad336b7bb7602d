package run_test

import (
	"fmt"
	"math"
	"testing"

	"palings/api"
	"palings/ast"
	"palings/run"
	"palings/word"
)

const (
	least = math.MinInt64
	most  = math.MaxInt64
)

func TestSimpleExpressions(t *testing.T) {
	for _, c := range []do{
		{"func main() { return 0; }", nil, 0, 0, 2, ""},
		{"func main() { return 9223372036854775807; }", nil, most, 0, 2, ""},
		{"func main() { return -5; }", nil, -5, 0, 4, ""},
		{"func main() { return --5; }", nil, 5, 0, 6, ""},
		{"public a; func main() { return a; }", one(least), least, 0, 2, ""},
		{"secret a; func main() { return a; }", one(8), 8, 0, 2, ""},
		{"var a; func main() { return a; }", one(8), 0, 0, 2, ""},
		{"secret s; func main() { return s + 1; }", one(4), 5, 0, 4, ""},
		{"func main() { let x = 3; return x; }", nil, 3, 0, 4, ""},
		{"func f(a) { return a; } func main() { return f(6); }", nil, 6, 0, 5, ""},
		{"func main() { return 1 + 2 * 3 - 4; }", nil, 3, 0, 8, ""},
		{"func main() { let x = true; if x { return 1; } return 2; }", nil, 1, 0, 6, "b1"},
		{"func main() { let x = false; if x { return 1; } return 2; }", nil, 2, 0, 6, "b0"},
	} {
		c.try(t)
	}
}

// words is what ops are tried on.
var words = []int64{0, 1, -1, 2, -2, 3, 7, -7, 63, 64, 65, -64, 1 << 32, least, least + 1, most, most - 1}

func TestOps(t *testing.T) {
	for o := word.Add; o <= word.Le; o++ {
		e := both(o, variable("a"), variable("b"))
		p := around(does(ast.Return, "", e))
		if o.Truth() {
			p = around(does(ast.If, "", e), does(ast.Return, "", num(0)))
			p.Funcs[0].Body[0].Then = []ast.Stmt{does(ast.Return, "", num(1))}
		}
		p.Globals = []ast.Global{{Name: "a", Hold: ast.Open}, {Name: "b", Hold: ast.Closed}}
		for _, a := range words {
			for _, b := range words {
				tryOp(t, p, o, a, b)
			}
		}
	}
}

func tryOp(t *testing.T, p ast.Prog, o word.Op, a, b int64) {
	t.Helper()
	v, ok := word.Do(o, a, b)
	c := do{"", one(a, b), v, api.NoTrap, 4, ""}
	switch {
	case o.Truth():
		c.steps, c.leaks = 6, fmt.Sprint("b", v)
	case o.Divides() && ok:
		c.leaks = fmt.Sprintf("b1 d%d,%d", a, b)
	case o.Divides():
		c.trap, c.leaks = api.Zero, "b0"
	}
	c.tryTree(t, p)
}

func TestDivisions(t *testing.T) {
	const ahead = "public a; public b; "
	for _, c := range []do{
		{"func main() { return a / b; }", one(-7, 2), -3, 0, 4, "b1 d-7,2"},
		{"func main() { return a % b; }", one(-7, 2), -1, 0, 4, "b1 d-7,2"},
		{"func main() { return a / b; }", one(least, -1), least, 0, 4, "b1 d-9223372036854775808,-1"},
		{"func main() { return a % b; }", one(least, -1), 0, 0, 4, "b1 d-9223372036854775808,-1"},
		{"func main() { return a / b; }", one(5, 0), 0, api.Zero, 4, "b0"},
		{"func main() { return a % b; }", one(5, 0), 0, api.Zero, 4, "b0"},
		{"func main() { return 0 / 0; }", nil, 0, api.Zero, 4, "b0"},
		{"func main() { return 60 / a / b; }", one(3, 4), 5, 0, 6, "b1 d60,3 b1 d20,4"},
		{"func main() { return 60 / (a / b); }", one(8, 4), 30, 0, 6, "b1 d8,4 b1 d60,2"},
		{"func main() { return 60 / (a / b); }", one(3, 4), 0, api.Zero, 6, "b1 d3,4 b0"},
		{"func main() { return 1 / 0 + 1 / a; }", one(3), 0, api.Zero, 5, "b0"},
		{"func main() { return 1 / a + 1 / 0; }", one(3), 0, api.Zero, 8, "b1 d1,3 b0"},
		{"func main() { return 1 / b / 0 / a; }", one(3, 1), 0, api.Zero, 7, "b1 d1,1 b0"},
	} {
		tryBehind(t, ahead, c)
	}
}

func tryBehind(t *testing.T, ahead string, c do) {
	t.Helper()
	c.text = ahead + c.text
	c.try(t)
}

// t leaks what it is given as a division by 1, so that the order of calls is seen; it takes four steps.
const tells = "func t(x) { return x / 1; } "

func TestAndOr(t *testing.T) {
	for _, c := range []do{
		{"func main() { if false && false { return 1; } return 2; }", nil, 2, 0, 5, "b0 b0"},
		{"func main() { if false && true { return 1; } return 2; }", nil, 2, 0, 5, "b0 b0"},
		{"func main() { if true && false { return 1; } return 2; }", nil, 2, 0, 6, "b1 b0"},
		{"func main() { if true && true { return 1; } return 2; }", nil, 1, 0, 6, "b1 b1"},
		{"func main() { if false || false { return 1; } return 2; }", nil, 2, 0, 6, "b0 b0"},
		{"func main() { if false || true { return 1; } return 2; }", nil, 1, 0, 6, "b0 b1"},
		{"func main() { if true || false { return 1; } return 2; }", nil, 1, 0, 5, "b1 b1"},
		{"func main() { if true || true { return 1; } return 2; }", nil, 1, 0, 5, "b1 b1"},
		{"func main() { let x = false && 1 / 0 == 1; if x { return 1; } }", nil, 0, 0, 5, "b0 b0"},
		{"func main() { let x = true || 1 / 0 == 1; if !x { return 1; } }", nil, 0, 0, 6, "b1 b0"},
		{"func main() { let x = true && 1 / 0 == 1; }", nil, 0, api.Zero, 7, "b1 b0"},
		{"func main() { let x = false || 1 / 0 == 1; }", nil, 0, api.Zero, 7, "b0 b0"},
		{"func main() { if t(1) == 1 && t(2) == 2 { return 5; } }", nil, 5, 0, 20, "b1 d1,1 b1 b1 d2,1 b1"},
		{"func main() { if t(1) == 0 && t(2) == 2 { return 5; } }", nil, 0, 0, 10, "b1 d1,1 b0 b0"},
		{"func main() { if t(1) == 0 || t(2) == 2 { return 5; } }", nil, 5, 0, 20, "b1 d1,1 b0 b1 d2,1 b1"},
		{"func main() { if true && false || true { return 1; } }", nil, 1, 0, 8, "b1 b0 b1"},
		{"func main() { if (true || false) && (false || true) { return 1; } }", nil, 1, 0, 9, "b1 b1 b0 b1"},
		{"func main() { if false && true || false && true { return 1; } }", nil, 0, 0, 6, "b0 b0 b0 b0"},
		{"func main() { if !(false || true) || !false && !!true { return 1; } }", nil, 1, 0, 14, "b0 b0 b1 b1"},
	} {
		tryBehind(t, tells, c)
	}
}

func TestNot(t *testing.T) {
	for _, c := range []do{
		{"func main() { if !true { return 1; } return 2; }", nil, 2, 0, 5, "b0"},
		{"func main() { if !false { return 1; } return 2; }", nil, 1, 0, 5, "b1"},
		{"func main() { if !!true { return 1; } return 2; }", nil, 1, 0, 6, "b1"},
		{"func main() { let x = !(1 < 2); if x || !x { return 1; } }", nil, 1, 0, 12, "b0 b1"},
	} {
		c.try(t)
	}
}

func TestIndex(t *testing.T) {
	const ahead = "public a; secret h[3]; var k[1]; "
	for _, c := range []do{
		{"func main() { return h[a]; }", one(0), 10, 0, 3, "b1 i0"},
		{"func main() { return h[a]; }", one(1), 11, 0, 3, "b1 i1"},
		{"func main() { return h[a]; }", one(2), 12, 0, 3, "b1 i2"},
		{"func main() { return h[a]; }", one(3), 0, api.Bounds, 3, "b0"},
		{"func main() { return h[a]; }", one(4), 0, api.Bounds, 3, "b0"},
		{"func main() { return h[a]; }", one(-1), 0, api.Bounds, 3, "b0"},
		{"func main() { return h[a]; }", one(least), 0, api.Bounds, 3, "b0"},
		{"func main() { return h[a]; }", one(most), 0, api.Bounds, 3, "b0"},
		{"func main() { return h[a]; }", one(1 << 32), 0, api.Bounds, 3, "b0"},
		{"func main() { return h[a]; }", one(1<<32 + 1), 0, api.Bounds, 3, "b0"},
		{"func main() { return k[a]; }", one(0), 0, 0, 3, "b1 i0"},
		{"func main() { return k[a]; }", one(1), 0, api.Bounds, 3, "b0"},
		{"func main() { return h[h[a] - 10]; }", one(2), 12, 0, 6, "b1 i2 b1 i2"},
		{"func main() { return h[h[a]]; }", one(2), 0, api.Bounds, 4, "b1 i2 b0"},
		{"func main() { return h[h[9]]; }", nil, 0, api.Bounds, 4, "b0"},
		{"func main() { return h[1 / a]; }", one(0), 0, api.Zero, 5, "b0"},
		{"func main() { return h[t(1)] + h[t(2)]; }", nil, 23, 0, 16, "b1 d1,1 b1 i1 b1 d2,1 b1 i2"},
		{"func main() { return h[3] + t(2); }", nil, 0, api.Bounds, 4, "b0"},
		{"func w() { h[1] = 50; return 1; } func main() { return h[w()]; }", nil, 50, 0, 8, "b1 i1 b1 i1"},
	} {
		if len(c.in) == 0 {
			c.in = one(0)
		}
		c.in = append(c.in, []int64{10, 11, 12})
		tryBehind(t, ahead+tells, c)
	}
}

func TestLastIndex(t *testing.T) {
	for _, size := range []int{1, 2, 3, 64, 4095, 4096} {
		last := int64(size - 1)
		p := around(does(ast.Put, "h", variable("a"), num(6)), does(ast.Return, "", ast.Expr{Kind: ast.Index, Name: "h", Kids: []ast.Expr{variable("a")}}))
		p.Globals = []ast.Global{{Name: "a", Hold: ast.Open}, {Name: "h", Size: size}}
		do{"", one(last), 6, 0, 6, fmt.Sprintf("b1 i%d b1 i%d", last, last)}.tryTree(t, p)
		do{"", one(last + 1), 0, api.Bounds, 3, "b0"}.tryTree(t, p)
		p.Funcs[0].Body = p.Funcs[0].Body[1:]
		do{"", one(last), 0, 0, 3, fmt.Sprint("b1 i", last)}.tryTree(t, p)
		do{"", one(last + 1), 0, api.Bounds, 3, "b0"}.tryTree(t, p)
	}
}

func TestCalls(t *testing.T) {
	for _, c := range []do{
		{"func f() { } func main() { return f(); }", nil, 0, 0, 2, ""},
		{"func f() { return 7; } func main() { return f(); }", nil, 7, 0, 4, ""},
		{"func f() { return 7; return 8; } func main() { return f(); }", nil, 7, 0, 4, ""},
		{"func f(a, b) { return b; } func main() { return f(1, 2); }", nil, 2, 0, 6, ""},
		{"func f(a, b, c, d, e, g) { return a - b * c - d * e * g; } func main() { return f(1, 2, 3, 4, 5, 6); }", nil, -125, 0, 20, ""},
		{"func f(a, b, c) { return t(a + b + c); } func main() { return f(t(1), t(2), t(3)); }", nil, 6, 0, 31, "b1 d1,1 b1 d2,1 b1 d3,1 b1 d6,1"},
		{"func main() { return t(1) + t(2); }", nil, 3, 0, 14, "b1 d1,1 b1 d2,1"},
		{"func main() { return t(8) / t(2); }", nil, 4, 0, 14, "b1 d8,1 b1 d2,1 b1 d8,2"},
		{"func main() { return t(8) / (t(2) - 2); }", nil, 0, api.Zero, 16, "b1 d8,1 b1 d2,1 b0"},
		{"func main() { if t(1) > t(2) { return 1; } return 2; }", nil, 2, 0, 16, "b1 d2,1 b1 d1,1 b0"},
		{"func main() { return t(t(t(5))); }", nil, 5, 0, 17, "b1 d5,1 b1 d5,1 b1 d5,1"},
		{"func f(a, b) { return t(a); } func main() { return f(1, 1 / 0); }", nil, 0, api.Zero, 6, "b0"},
		{"func f(a, b) { return t(a); } func main() { return f(1 / 0, t(1)); }", nil, 0, api.Zero, 5, "b0"},
		{"func f(a) { a = a + 1; return a; } func main() { let x = 1; let y = f(x); return x * 10 + y; }", nil, 12, 0, 17, ""},
		{"func f(a, b) { return a * 10 + b; } func main() { let a = 1; let b = 2; return f(b, a); }", nil, 21, 0, 14, ""},
		{"public g; func f() { g = 10; return 1; } func main() { return g + f(); }", one(5), 6, 0, 8, ""},
		{"public g; func f() { g = 10; return 1; } func main() { return f() + g; }", one(5), 11, 0, 8, ""},
		{"public g; func f() { g = 10; return 1; } func e(a, b, c) { return a * 100 + b + c; } func main() { return e(g, f(), g); }", one(5), 511, 0, 17, ""},
		{"func f(n) { if n < 2 { return n; } return f(n - 1) + f(n - 2); } func main() { return f(3); }", nil, 2, 0, 49, "b0 b0 b1 b1 b1"},
		{"func f(n) { let m = n; if n > 0 { f(n - 1); } return m; } func main() { return f(2); }", nil, 2, 0, 37, "b1 b1 b0"},
		{"func f(n, m) { if n == 0 { return m; } return f(n - 1, m * 2 + n) - n; } func main() { return f(2, 0); }", nil, 2, 0, 42, "b0 b0 b1"},
	} {
		tryBehind(t, tells, c)
	}
}

// Trees may be what no text says: Truths of other numbers, and Kids that nobody asks for.
func TestOddTrees(t *testing.T) {
	for _, n := range []int64{1, 2, -1, least, most, 1 << 32} {
		p := around(does(ast.If, "", truth(n)))
		do{"", nil, 0, 0, 2, "b1"}.tryTree(t, p)
		p = around(does(ast.If, "", of(ast.Not, truth(n))))
		do{"", nil, 0, 0, 3, "b0"}.tryTree(t, p)
		p = around(does(ast.If, "", of(ast.Not, of(ast.Not, truth(n)))))
		do{"", nil, 0, 0, 4, "b1"}.tryTree(t, p)
		p = around(does(ast.If, "", of(ast.Or, truth(n), truth(0))))
		do{"", nil, 0, 0, 3, "b1 b1"}.tryTree(t, p)
	}
	trapped := both(word.Div, num(1), num(0))
	seven, yes, name := num(7), truth(1), variable("x")
	seven.Kids, yes.Kids, name.Kids = []ast.Expr{trapped}, []ast.Expr{trapped}, []ast.Expr{trapped}
	p := around(does(ast.Let, "x", seven, trapped), does(ast.If, "", yes, trapped), does(ast.Return, "", name, trapped))
	do{"", nil, 7, 0, 6, "b1"}.tryTree(t, p)
	p = around(does(ast.Run, "", num(7)), does(ast.Run, "", both(word.Mod, num(7), num(2))))
	do{"", nil, 0, 0, 6, "b1 d7,2"}.tryTree(t, p)
}

// Far more is nested than Go's own stack could hold: deep trees, in each of 2000 calls.
func TestDeepTreesInDeepCalls(t *testing.T) {
	const deep = 8000
	for _, left := range []bool{true, false} {
		e := ast.Expr{Kind: ast.Call, Name: "f", Kids: []ast.Expr{both(word.Sub, variable("n"), num(1))}}
		for range deep {
			if left {
				e = both(word.Add, e, num(1))
			} else {
				e = both(word.Add, num(1), e)
			}
		}
		p := parsed(t, "func f(n) { if n > 0 { return 0; } return 0; } func main() { return f(1998); }")
		p.Funcs[0].Body[0].Then[0].E[0] = e
		r, err := run.Run(p, nil, plenty)
		if err != api.OK || r.Val != 1998*deep || r.Deep != 2000 || r.Steps != 1998*(2*deep+9)+9 {
			t.Error(left, err, r.Val, r.Deep, r.Steps)
		}
	}
}

func TestDeepTrees(t *testing.T) {
	const deep = 1 << 16
	e := truth(1)
	for range deep - 3 {
		e = of(ast.Not, e)
	}
	p := around(does(ast.If, "", e))
	do{"", nil, 0, 0, deep - 1, "b0"}.tryTree(t, p)

	s := does(ast.Return, "", num(3))
	for range deep - 3 {
		s = ast.Stmt{Does: ast.If, E: []ast.Expr{truth(0)}, Else: []ast.Stmt{s}}
	}
	r, err := run.Run(around(s), nil, plenty)
	if err != api.OK || r.Val != 3 || r.Steps != 2*(deep-2) || len(r.Leaks) != deep-3 {
		t.Error(err, r.Val, r.Steps, len(r.Leaks))
	}
}
