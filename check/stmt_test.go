package check_test

import (
	"math"
	"strconv"
	"testing"

	"palings/api"
	"palings/ast"
)

func TestLet(t *testing.T) {
	for _, c := range []tell{
		{"func main() { let x = 1; return x; }", api.OK},
		{"func main() { let x = true; if x { } }", api.OK},
		{"func main() { let x = true; return @x; }", api.ErrType},
		{"func main() { let x = 1; if @x { } }", api.ErrType},
		{"func main() { let x = @x; }", api.ErrName},
		{"func main() { let y = @x; let x = 1; }", api.ErrName},
		{"func main() { @x = 2; let x = 1; }", api.ErrName},
		{"func main() { if true { let x = 1; x = 2; if true { x = 3; } } @x = 4; }", api.ErrName},
		{"func main() { if true { let x = 1; } else { @x = 2; } }", api.ErrName},
		{"func main() { while true { let x = 1; } return @x; }", api.ErrName},
		{"func main() { if true { } else { let x = 1; } return @x; }", api.ErrName},
		{"func f() { let x = 1; } func main() { return @x; }", api.ErrName},
		{"func main() { let x = 1; @let x = 2; }", api.ErrTwice},
		{"func main() { let x = 1; let y = 1; @let x = true; }", api.ErrTwice},
		{"func main() { let x = 1; if true { @let x = 2; } }", api.ErrTwice},
		{"func main() { let x = 1; if true { } else { @let x = 2; } }", api.ErrTwice},
		{"func main() { let x = 1; while true { if true { @let x = 2; } } }", api.ErrTwice},
		{"func main() { while true { let x = 1; if x < 2 { @let x = 2; } } }", api.ErrTwice},
		{"func main() { let y = 0; if true { let x = 1; y = x; } if true { let x = true; if x { } } }", api.OK},
		{"func main() { if true { let x = 1; } else { let x = true; } let x = 2; return x; }", api.OK},
		{"func main() { while true { let x = 1; } while true { let x = 2; } let x = 3; }", api.OK},
		{"func main() { let x = 1; if true { let y = 1; } x = 2; let y = x; }", api.OK},
		{"func f(a) { @let a = 1; } func main() { }", api.ErrTwice},
		{"func f(a) { if true { @let a = 1; } } func main() { }", api.ErrTwice},
		{"var w; func main() { @let w = 1; }", api.ErrTwice},
		{"func main() { @let h = 1; } var h[3];", api.ErrTwice},
		{"func main() { @let main = 1; }", api.ErrTwice},
		{"func f() { @let g = 1; } func g() { } func main() { }", api.ErrTwice},
		{"func main() { let main = @x; }", api.ErrName},
		{"func main() { let x = 1; let x = 1 + @true; }", api.ErrType},
	} {
		c.try(t)
	}
}

func TestSet(t *testing.T) {
	for _, c := range []tell{
		{"func f(a) { a = 1; } func main() { }", api.OK},
		{"func f(a) { a = @true; } func main() { }", api.ErrType},
		{"func main() { let x = 1; x = x + 1; }", api.OK},
		{"func main() { let x = 1; x = (x @< 1); }", api.ErrType},
		{"func main() { let x = true; x = false; x = 1 < 2; }", api.OK},
		{"func main() { let x = true; x = @1; }", api.ErrType},
		{"public w; func main() { w = w + 1; }", api.OK},
		{"secret w; func main() { w = @true; }", api.ErrType},
		{"var h[1]; func main() { @h = 1; }", api.ErrName},
		{"func f() { } func main() { @f = 1; }", api.ErrName},
		{"func main() { @main = 1; }", api.ErrName},
		{"func main() { @x = 1; }", api.ErrName},
		{"func main() { @x = y; }", api.ErrName},
		{"func main() { @x = 1 + true; }", api.ErrName},
	} {
		c.try(t)
	}
}

func TestPut(t *testing.T) {
	for _, c := range []tell{
		{"var h[3]; func main() { h[0] = 1; h[h[1]] = h[2]; }", api.OK},
		{"public h[1]; secret s[4096]; func f(a) { h[a] = s[a]; s[a] = a; } func main() { }", api.OK},
		{"var h[3]; func main() { h[@true] = 1; }", api.ErrType},
		{"var h[3]; func main() { h[0] = @false; }", api.ErrType},
		{"var h[3]; func main() { h[@true] = false; }", api.ErrType},
		{"var h[3]; func main() { h[1 @< 2] = x; }", api.ErrType},
		{"var h[3]; func main() { h[0] = @x; }", api.ErrName},
		{"var w; func main() { @w[0] = 1; }", api.ErrName},
		{"func f(a) { @a[0] = 1; } func main() { }", api.ErrName},
		{"func main() { let x = 1; @x[0] = 1; }", api.ErrName},
		{"func main() { @main[0] = 1; }", api.ErrName},
		{"func main() { @x[0] = 1; }", api.ErrName},
		{"func main() { @x[true] = y; }", api.ErrName},
	} {
		c.try(t)
	}
}

func TestIfAndWhile(t *testing.T) {
	for _, c := range []tell{
		{"func main() { if true { return 1; } else { return 2; } }", api.OK},
		{"func main() { if 1 < 2 { } else if false { } else { } }", api.OK},
		{"func main() { if @1 { } }", api.ErrType},
		{"func main() { while @1 { } }", api.ErrType},
		{"func main() { if @x { return y; } }", api.ErrName},
		{"func main() { while 1 @+ 2 { return y; } }", api.ErrType},
		{"func main() { if true { return @x; } else { return y; } }", api.ErrName},
		{"func main() { if true { } else { return @y; } }", api.ErrName},
		{"func main() { if true { } else if @3 { return x; } }", api.ErrType},
		{"func main() { while true { while false { return @y; } } return z; }", api.ErrName},
		{"func main() { if @1 { return x; } else { return y; } return z; }", api.ErrType},
		{"func main() { if true { } return @z; }", api.ErrName},
	} {
		c.try(t)
	}
}

func TestReturnAndRun(t *testing.T) {
	for _, c := range []tell{
		{"func main() { return 1; return 2; }", api.OK},
		{"func main() { return @true; }", api.ErrType},
		{"func main() { return 1 @== 1; }", api.ErrType},
		{"func main() { main(); }", api.OK},
		{"func main() { @f(); }", api.ErrName},
		{"func main() { return 1; return @x; return true; }", api.ErrName},
	} {
		c.try(t)
	}
	run := ast.Stmt{Does: ast.Run, At: place(1), E: []ast.Expr{num(2)}}
	tryTree(t, "a number by itself", around(run), api.OK, api.Pos{})
	run.E[0] = truth(2)
	tryTree(t, "a truth by itself", around(run), api.ErrType, place(2))
}

// lacking is a statement that is right but for the expressions that it has.
func lacking(d ast.Does, name string, e ...ast.Expr) ast.Prog {
	return around(ast.Stmt{Does: d, At: place(1), Name: name, E: e}, ast.Stmt{Does: ast.Return, At: place(9)})
}

func TestStatementsThatLackAnExpression(t *testing.T) {
	for d, name := range map[ast.Does]string{ast.Let: "x", ast.Set: "w", ast.Put: "h", ast.If: "", ast.While: "", ast.Return: "", ast.Run: ""} {
		tryTree(t, strconv.Itoa(int(d)), lacking(d, name), api.ErrBad, place(1))
	}
	tryTree(t, "an index alone", lacking(ast.Put, "h", num(2)), api.ErrBad, place(1))
	tryTree(t, "a wrong index alone", lacking(ast.Put, "h", truth(2)), api.ErrType, place(2))
	tryTree(t, "an index of no name alone", lacking(ast.Put, "h", variable(2, "x")), api.ErrName, place(2))
	tryTree(t, "no array, and nothing", lacking(ast.Put, "w"), api.ErrName, place(1))
	tryTree(t, "no array, and an index alone", lacking(ast.Put, "w", truth(2)), api.ErrName, place(1))
	tryTree(t, "no name, and nothing", lacking(ast.Set, "x"), api.ErrName, place(1))
	tryTree(t, "a known name, and nothing", lacking(ast.Let, "w"), api.ErrBad, place(1))

	wrong := ast.Stmt{Does: ast.Return, At: place(5)}
	for _, d := range []ast.Does{ast.If, ast.While} {
		s := ast.Stmt{Does: d, At: place(1), Then: []ast.Stmt{wrong}}
		tryTree(t, "no truth, and a wrong block", around(s), api.ErrBad, place(1))
	}
}

func TestExpressionsThatNoStatementAsksFor(t *testing.T) {
	more := variable(3, "nobody")
	for _, s := range []ast.Stmt{
		{Does: ast.Let, Name: "x", E: []ast.Expr{num(2), more}},
		{Does: ast.Set, Name: "w", E: []ast.Expr{num(2), more}},
		{Does: ast.Put, Name: "h", E: []ast.Expr{num(2), num(2), more}},
		{Does: ast.If, E: []ast.Expr{truth(2), more}},
		{Does: ast.While, E: []ast.Expr{truth(2), more}},
		{Does: ast.Return, E: []ast.Expr{num(2), more}},
		{Does: ast.Run, E: []ast.Expr{num(2), more}},
	} {
		tryTree(t, strconv.Itoa(int(s.Does)), around(s), api.OK, api.Pos{})
	}
}

func TestStatementsOfNoKind(t *testing.T) {
	for _, d := range []ast.Does{0, -1, 8, 9, math.MinInt, math.MaxInt} {
		p := lacking(d, "w", variable(2, "x"), num(3))
		tryTree(t, strconv.Itoa(int(d)), p, api.ErrBad, place(1))
	}
}

// Both blocks of an If and of a While are looked at, the first one ahead, each as a block of its own.
func TestBothBlocks(t *testing.T) {
	wrong := func(n int) []ast.Stmt { return []ast.Stmt{{Does: ast.Return, At: place(n)}} }
	fresh := func(n int) []ast.Stmt {
		return []ast.Stmt{{Does: ast.Let, At: place(n), Name: "x", E: []ast.Expr{num(n)}}}
	}
	for _, d := range []ast.Does{ast.If, ast.While} {
		s := ast.Stmt{Does: d, At: place(1), E: []ast.Expr{truth(2)}}
		s.Then, s.Else = wrong(5), wrong(6)
		tryTree(t, "both wrong", around(s), api.ErrBad, place(5))
		s.Then = nil
		tryTree(t, "the other wrong", around(s), api.ErrBad, place(6))
		s.Then, s.Else = fresh(5), fresh(6)
		tryTree(t, "one name in both", around(s), api.OK, api.Pos{})
		tryTree(t, "and behind them", around(append([]ast.Stmt{s}, fresh(7)...)...), api.OK, api.Pos{})
		tryTree(t, "and ahead of them", around(append(fresh(7), s)...), api.ErrTwice, place(5))
	}
}
