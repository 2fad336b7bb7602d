package build_test

import (
	"fmt"
	"math"
	"reflect"
	"testing"

	"palings/api"
	"palings/ast"
	"palings/build"
	"palings/check"
	"palings/ssa"
	"palings/word"
)

// refused says that a program has that fault of layer 5, and no blocks.
func refused(t *testing.T, p ast.Prog, fault api.Errno) {
	t.Helper()
	if _, got := check.Program(p); got.E != fault {
		t.Errorf("the fault is %v, want %d of\n%s", got, fault, p.Text())
	}
	q, e := build.Program(p)
	if e != api.ErrBad || !reflect.DeepEqual(q, ssa.Prog{}) {
		t.Errorf("error %d, and %+v of\n%s", e, q, p.Text())
	}
}

func TestTextsWithFaults(t *testing.T) {
	for _, c := range []struct {
		text  string
		fault api.Errno
	}{
		{"", api.ErrMain},
		{"var g;", api.ErrMain},
		{"func f() { }", api.ErrMain},
		{"func main(a) { }", api.ErrMain},
		{"func main() { } func main() { }", api.ErrTwice},
		{"var a; public a; func main() { }", api.ErrTwice},
		{"var main; func main() { }", api.ErrTwice},
		{"func f(a, a) { } func main() { }", api.ErrTwice},
		{"func f(f) { } func main() { }", api.ErrTwice},
		{"func main() { let x = 1; let x = 2; }", api.ErrTwice},
		{"func main() { let x = 1; if true { let x = 2; } }", api.ErrTwice},
		{"func main() { let main = 1; }", api.ErrTwice},
		{"func f(a, b, c, d, e, g, h) { } func main() { }", api.ErrMany},
		{"func main() { return x; }", api.ErrName},
		{"func main() { x = 1; }", api.ErrName},
		{"func main() { x[0] = 1; }", api.ErrName},
		{"func main() { x(); }", api.ErrName},
		{"func main() { if true { let x = 1; } return x; }", api.ErrName},
		{"func main() { while true { let x = 1; } x = 2; }", api.ErrName},
		{"var h[2]; func main() { return h; }", api.ErrName},
		{"var h[2]; func main() { h = 1; }", api.ErrName},
		{"var g; func main() { g[0] = 1; }", api.ErrName},
		{"var g; func main() { return g[0]; }", api.ErrName},
		{"func main() { return true; }", api.ErrType},
		{"func main() { if 1 { } }", api.ErrType},
		{"func main() { while 1 { } }", api.ErrType},
		{"func main() { let x = 1; x = true; }", api.ErrType},
		{"var h[2]; func main() { h[true] = 1; }", api.ErrType},
		{"var h[2]; func main() { h[0] = true; }", api.ErrType},
		{"func main() { return 1 + true; }", api.ErrType},
		{"func main() { let x = !1; }", api.ErrType},
		{"func main() { let x = true && 1; }", api.ErrType},
		{"func f(a) { } func main() { f(true); }", api.ErrType},
		{"func f(a) { } func main() { f(); }", api.ErrCount},
		{"func main() { return main(1); }", api.ErrCount},
		// What can't be come to is looked at, too.
		{"func main() { return 1; return x; }", api.ErrName},
		{"func main() { while false { return true; } }", api.ErrType},
		{"func f() { f(1); } func main() { }", api.ErrCount},
	} {
		refused(t, parsed(t, c.text), c.fault)
	}
}

func several(n int) (ast.Prog, ast.Prog) {
	globals, funcs := around(), around()
	for i := range n {
		globals.Globals = append(globals.Globals, ast.Global{Name: fmt.Sprint("g", i)})
		if i > 0 {
			funcs.Funcs = append(funcs.Funcs, ast.Func{Name: fmt.Sprint("f", i)})
		}
	}
	return globals, funcs
}

func TestTreesWithFaults(t *testing.T) {
	for _, n := range []int{api.MaxVars + 1, api.MaxVars + 50} {
		p, _ := several(n)
		refused(t, p, api.ErrMany)
	}
	for _, n := range []int{api.MaxFuncs + 1, api.MaxFuncs + 50} {
		_, p := several(n)
		refused(t, p, api.ErrMany)
	}
	for _, size := range []int{-1, math.MinInt, api.MaxArray + 1, math.MaxInt} {
		p := around()
		p.Globals = []ast.Global{{Name: "h", Size: size}}
		refused(t, p, api.ErrBad)
	}
	for _, hold := range []ast.Hold{-1, 3, math.MinInt, math.MaxInt} {
		p := around()
		p.Globals = []ast.Global{{Name: "h", Hold: hold}}
		refused(t, p, api.ErrBad)
	}
	refused(t, ast.Prog{}, api.ErrMain)
	for _, s := range []ast.Stmt{
		{},
		does(-1, "x", num(1)),
		does(ast.Run+1, "x", num(1)),
		does(ast.Let, "x"),
		does(ast.Put, "h", num(0)),
		does(ast.Put, "h"),
		does(ast.If, ""),
		does(ast.While, ""),
		does(ast.Return, ""),
		does(ast.Run, ""),
		does(ast.Run, "", ast.Expr{}),
		does(ast.Run, "", of(ast.Not+1, num(1))),
		does(ast.Run, "", of(ast.Both, num(1), num(2))),
		does(ast.Run, "", both(word.Below, num(1), num(2))),
		does(ast.Run, "", both(word.Below+1, num(1), num(2))),
		does(ast.Run, "", ast.Expr{Kind: ast.Both, Op: word.Add, Kids: []ast.Expr{num(1)}}),
		does(ast.Run, "", ast.Expr{Kind: ast.Both, Op: word.Add, Kids: []ast.Expr{num(1), num(2), num(3)}}),
		does(ast.Run, "", ast.Expr{Kind: ast.Index, Name: "h"}),
		does(ast.Run, "", ast.Expr{Kind: ast.Index, Name: "h", Kids: []ast.Expr{num(0), num(1)}}),
		does(ast.If, "", of(ast.Not)),
		does(ast.If, "", of(ast.Not, truth(1), truth(1))),
		does(ast.If, "", of(ast.And, truth(1))),
		does(ast.If, "", of(ast.Or, truth(1), truth(1), truth(1))),
	} {
		p := around(s)
		p.Globals = []ast.Global{{Name: "h", Size: 3}}
		refused(t, p, api.ErrBad)
		p.Funcs[0].Body = append([]ast.Stmt{does(ast.Return, "", num(1))}, s)
		refused(t, p, api.ErrBad)
		p.Funcs[0].Body = []ast.Stmt{{Does: ast.While, E: []ast.Expr{truth(0)}, Else: []ast.Stmt{s}}}
		refused(t, p, api.ErrBad)
	}
}
