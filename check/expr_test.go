package check_test

import (
	"math"
	"strconv"
	"testing"

	"palings/api"
	"palings/ast"
	"palings/word"
)

func TestValues(t *testing.T) {
	for _, c := range []tell{
		{"func main() { return 0; }", api.OK},
		{"func main() { if false { } if true { } }", api.OK},
		{"func f(a) { return a; } func main() { }", api.OK},
		{"public w; func main() { return w; }", api.OK},
		{"func main() { return w; } secret w;", api.OK},
		{"public w; func main() { if @w { } }", api.ErrType},
		{"func f(a) { if @a { } } func main() { }", api.ErrType},
		{"var h[3]; func main() { return @h; }", api.ErrName},
		{"func main() { return @main; }", api.ErrName},
		{"func main() { return @x; }", api.ErrName},
		{"func main() { if @x { } }", api.ErrName},
	} {
		c.try(t)
	}
}

func TestIndex(t *testing.T) {
	for _, c := range []tell{
		{"var h[3]; func main() { return h[h[2]]; }", api.OK},
		{"var h[3]; func main() { if @h[0] { } }", api.ErrType},
		{"var h[3]; func main() { return h[@true]; }", api.ErrType},
		{"var h[3]; func main() { return h[h[@true]]; }", api.ErrType},
		{"var h[3]; func main() { return h[@x]; }", api.ErrName},
		{"var w; func main() { return @w[0]; }", api.ErrName},
		{"func f(a) { return @a[0]; } func main() { }", api.ErrName},
		{"func main() { let x = 1; return @x[0]; }", api.ErrName},
		{"func f(a) { return @f[0]; } func main() { }", api.ErrName},
		{"func main() { return @x[y]; }", api.ErrName},
		{"func main() { return @x[true]; }", api.ErrName},
	} {
		c.try(t)
	}
}

func TestCall(t *testing.T) {
	const ahead = "func f(a, b) { } func g() { } "
	for _, c := range []tell{
		{"func main() { return f(1, g()) + late(2); } func late(x) { return f(x, late(x)); }", api.OK},
		{"func main() { f(1, 2); g(); return f(f(1, 2), 3); }", api.OK},
		{"func main() { return @f(); }", api.ErrCount},
		{"func main() { return @f(1); }", api.ErrCount},
		{"func main() { return @f(1, 2, 3); }", api.ErrCount},
		{"func main() { return @g(1); }", api.ErrCount},
		{"func main() { return @f(true); }", api.ErrCount},
		{"func main() { return @f(x, y, z); }", api.ErrCount},
		{"func main() { return f(1, @f(1)); }", api.ErrCount},
		{"func main() { return f(@true, false); }", api.ErrType},
		{"func main() { return f(1, @false); }", api.ErrType},
		{"func main() { return f(@true, x); }", api.ErrType},
		{"func main() { return f(@x, true); }", api.ErrName},
		{"func main() { return f(1 @< 2, 3); }", api.ErrType},
		{"func main() { if @g() { } }", api.ErrType},
		{"func main() { return @nobody(); }", api.ErrName},
		{"func main() { return @nobody(true, x); }", api.ErrName},
		{"var w; func main() { return @w(); }", api.ErrName},
		{"var h[2]; func main() { return @h(1); }", api.ErrName},
		{"func main() { let x = 1; return @x(); }", api.ErrName},
		{"func k(a) { return @a(); } func main() { }", api.ErrName},
	} {
		tell{ahead + c.text, c.want}.try(t)
	}
	for n := range 7 {
		for kids := range 9 {
			p := let(ast.Expr{Kind: ast.Call, At: place(1), Name: "one", Kids: numbers(kids)})
			p.Funcs[0].Params = params(n)
			if kids == n {
				tryTree(t, strconv.Itoa(n), p, api.OK, api.Pos{})
			} else {
				tryTree(t, strconv.Itoa(n)+" "+strconv.Itoa(kids), p, api.ErrCount, place(1))
			}
		}
	}
}

func numbers(n int) []ast.Expr {
	var out []ast.Expr
	for i := range n {
		out = append(out, num(100+i))
	}
	return out
}

func truths(n int) []ast.Expr {
	var out []ast.Expr
	for i := range n {
		out = append(out, truth(100+i))
	}
	return out
}

func both(o word.Op, kids ...ast.Expr) ast.Expr {
	return ast.Expr{Kind: ast.Both, At: place(1), Op: o, Kids: kids}
}

// returned is a program that is right just if the expression is an Int.
func returned(e ast.Expr) ast.Prog {
	return around(ast.Stmt{Does: ast.Return, At: place(900), E: []ast.Expr{e}})
}

// asked is a program that is right just if the expression is a Bool.
func asked(e ast.Expr) ast.Prog {
	return around(ast.Stmt{Does: ast.If, At: place(900), E: []ast.Expr{e}})
}

func TestOpsOfBoth(t *testing.T) {
	for o := word.Add; o <= word.Le; o++ {
		e := both(o, num(2), num(3))
		tryTree(t, o.String(), let(e), api.OK, api.Pos{})
		if o >= word.Eq {
			tryTree(t, o.String(), asked(e), api.OK, api.Pos{})
			tryTree(t, o.String(), returned(e), api.ErrType, place(1))
		} else {
			tryTree(t, o.String(), returned(e), api.OK, api.Pos{})
			tryTree(t, o.String(), asked(e), api.ErrType, place(1))
		}
		tryTree(t, o.String(), let(both(o, truth(2), truth(3))), api.ErrType, place(2))
		tryTree(t, o.String(), let(both(o, num(2), truth(3))), api.ErrType, place(3))
	}
	for _, o := range []word.Op{0, -1, word.Below, word.Below + 1, 17, math.MinInt, math.MaxInt} {
		tryTree(t, o.String(), let(both(o, num(2), num(3))), api.ErrBad, place(1))
		tryTree(t, o.String(), asked(both(o, num(2), num(3))), api.ErrBad, place(1))
		tryTree(t, o.String(), returned(both(o, num(2), num(3))), api.ErrBad, place(1))
		tryTree(t, o.String(), let(both(o, num(2), truth(3))), api.ErrType, place(3))
		tryTree(t, o.String(), let(both(o, num(2), variable(3, "x"))), api.ErrName, place(3))
		tryTree(t, o.String(), let(both(o, truth(2))), api.ErrBad, place(1))
	}
}

func TestTruthsTogether(t *testing.T) {
	for _, c := range []tell{
		{"func main() { if true && false || !true { } }", api.OK},
		{"func main() { let x = 1 < 2 && 3 == 4; if x || !x { } }", api.OK},
		{"func main() { if @1 && true { } }", api.ErrType},
		{"func main() { if true && @2 { } }", api.ErrType},
		{"func main() { if @1 || 2 { } }", api.ErrType},
		{"func main() { if true || @2 { } }", api.ErrType},
		{"func main() { if !@1 { } }", api.ErrType},
		{"func main() { if !!@1 { } }", api.ErrType},
		{"func main() { return @!true; }", api.ErrType},
		{"func main() { return true @&& true; }", api.ErrType},
		{"func main() { return true @|| true; }", api.ErrType},
		{"func main() { return @!true + 2; }", api.ErrType},
		{"func main() { return !@1 + 2; }", api.ErrType},
		{"func main() { return -@true; }", api.ErrType},
		{"func main() { return 1 + @true + x; }", api.ErrType},
		{"func main() { if @true == true { } }", api.ErrType},
		{"func main() { if true > @x { } }", api.ErrName}, // it is x < true
		{"func main() { if @1 && x { } }", api.ErrType},
		{"func main() { if @x && 1 { } }", api.ErrName},
		{"func main() { if true && (1 @+ 1) { } }", api.ErrType},
	} {
		c.try(t)
	}
}

func TestNumberOfKids(t *testing.T) {
	for _, c := range []struct {
		kind  ast.Kind
		right int
		make  func(int) []ast.Expr
	}{
		{ast.Index, 1, numbers},
		{ast.Both, 2, numbers},
		{ast.And, 2, truths},
		{ast.Or, 2, truths},
		{ast.Not, 1, truths},
	} {
		for n := range 5 {
			e := ast.Expr{Kind: c.kind, At: place(1), Name: "h", Op: word.Add, Kids: c.make(n)}
			what := strconv.Itoa(int(c.kind)) + " of " + strconv.Itoa(n)
			if n == c.right {
				tryTree(t, what, let(e), api.OK, api.Pos{})
				continue
			}
			tryTree(t, what, let(e), api.ErrBad, place(1))
			if n > 0 {
				e.Kids[0] = variable(3, "nobody")
				tryTree(t, what+", one wrong", let(e), api.ErrBad, place(1))
			}
		}
	}
}

func TestNameOfAnIndexIsToldAheadOfItsKids(t *testing.T) {
	for n := range 4 {
		for _, name := range []string{"w", "one", "x", ""} {
			e := ast.Expr{Kind: ast.Index, At: place(1), Name: name, Kids: truths(n)}
			tryTree(t, name, let(e), api.ErrName, place(1))
		}
	}
}

func TestKidsOfWhatHasNone(t *testing.T) {
	wrong := []ast.Expr{variable(3, "nobody")}
	for _, k := range []ast.Kind{ast.Num, ast.Truth, ast.Var} {
		e := ast.Expr{Kind: k, At: place(1), Name: "w", Kids: wrong}
		tryTree(t, strconv.Itoa(int(k)), let(e), api.OK, api.Pos{})
	}
}

func TestExpressionsOfNoKind(t *testing.T) {
	for _, k := range []ast.Kind{0, -1, 10, 11, math.MinInt, math.MaxInt} {
		e := ast.Expr{Kind: k, At: place(1), Name: "w", Op: word.Add}
		tryTree(t, strconv.Itoa(int(k)), let(e), api.ErrBad, place(1))
		tryTree(t, strconv.Itoa(int(k)), returned(e), api.ErrBad, place(1))
		e.Kids = []ast.Expr{variable(3, "nobody"), num(4)}
		tryTree(t, strconv.Itoa(int(k)), let(e), api.ErrBad, place(1))
	}
	// One of no kind that can't be looked at, for its fellow ahead is wrong.
	tryTree(t, "behind a wrong one", let(both(word.Add, truth(2), ast.Expr{At: place(3)})), api.ErrType, place(2))
	tryTree(t, "behind a right one", let(both(word.Add, num(2), ast.Expr{At: place(3)})), api.ErrBad, place(3))
}

// What is nested as deep as the document lets it be is looked at, down to its end.
func TestDeepTrees(t *testing.T) {
	const deep = 1 << 16
	right, wrong := truth(2), num(3)
	for range deep {
		right = ast.Expr{Kind: ast.Not, At: place(1), Kids: []ast.Expr{right}}
		wrong = ast.Expr{Kind: ast.Not, At: place(1), Kids: []ast.Expr{wrong}}
	}
	tryTree(t, "right", let(right), api.OK, api.Pos{})
	tryTree(t, "wrong", let(wrong), api.ErrType, place(3))

	s := ast.Stmt{Does: ast.Return, At: place(7)}
	for range deep {
		s = ast.Stmt{Does: ast.If, At: place(1), E: []ast.Expr{truth(2)}, Else: []ast.Stmt{s}}
	}
	tryTree(t, "blocks", around(s), api.ErrBad, place(7))
}
