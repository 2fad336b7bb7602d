package run_test

import (
	"fmt"
	"math"
	"reflect"
	"strconv"
	"strings"
	"testing"

	"palings/api"
	"palings/ast"
	"palings/run"
	"palings/word"
)

// refused says that a run is to answer that error, and nothing beside it.
func refused(t *testing.T, p ast.Prog, in [][]int64, fuel int, want api.Errno) {
	t.Helper()
	r, e := run.Run(p, in, fuel)
	if e != want || !reflect.DeepEqual(r, run.Result{}) {
		t.Errorf("fuel %d: error %d, want %d, %s of\n%s", fuel, e, want, whole(r), p.Text())
	}
}

func TestProgramsWithFaults(t *testing.T) {
	fuels := []int{math.MinInt, -1, 0, 1, 1000, math.MaxInt}
	for _, s := range []string{
		"",
		"func f() { }",
		"func main(a) { }",
		"func main() { return x; }",
		"func main() { return 1; return x; }",
		"func main() { return true; }",
		"func main() { return main(1); }",
		"func main() { while true { } } func main() { }",
		"var a; var a; func main() { }",
		"var h[3]; func main() { return h; }",
		"func f() { x = 1; } func main() { }",
	} {
		for _, fuel := range fuels {
			refused(t, parsed(t, s), one(1, 2), fuel, api.ErrBad)
		}
	}
	for _, p := range []ast.Prog{
		{},
		around(ast.Stmt{}),
		around(does(ast.Return, "")),
		around(does(ast.Return, "", ast.Expr{})),
		around(does(ast.Return, "", both(word.Below, num(1), num(2)))),
		around(does(ast.Return, "", of(ast.Not, truth(1)))),
		around(does(ast.If, "", of(ast.Not))),
		{Globals: []ast.Global{{Name: "g", Size: 4097}}, Funcs: around().Funcs},
		{Globals: []ast.Global{{Name: "g", Size: -1}}, Funcs: around().Funcs},
		{Globals: []ast.Global{{Name: "g", Hold: 3}}, Funcs: around().Funcs},
	} {
		for _, fuel := range fuels {
			refused(t, p, nil, fuel, api.ErrBad)
		}
	}
}

func TestFuel(t *testing.T) {
	for _, c := range []struct {
		text  string
		steps int
	}{
		{"func main() { }", 0},
		{"func f() { return 1; } func main() { }", 0},
		{"func main() { return 7; }", 2},
		{"func f() { } func main() { f(); f(); }", 4},
		{"var h[2]; func main() { h[1] = h[0]; }", 4},
		{"func main() { return 1 / 0; }", 4},
		{"var h[2]; func main() { return h[2]; }", 3},
		{"func main() { let i = 0; while i < 3 { i = i + 1; } return i; }", 29},
		{"func f(n) { if n < 1 { return 1 / n; } return f(n - 1); } func main() { return f(2); }", 29},
	} {
		p := parsed(t, c.text)
		for _, fuel := range []int{c.steps, c.steps + 1, c.steps + 1000, math.MaxInt} {
			if r, e := run.Run(p, nil, fuel); e != api.OK || r.Steps != c.steps {
				t.Errorf("%s fuel %d: %d, %d steps, want %d", c.text, fuel, e, r.Steps, c.steps)
			}
		}
		for _, fuel := range []int{math.MinInt, -1, 0} {
			if c.steps > 0 {
				refused(t, p, nil, fuel, api.ErrSteps)
			} else if r, e := run.Run(p, nil, fuel); e != api.OK || r.Steps != 0 || r.Deep != 1 {
				t.Errorf("%s fuel %d: %d, %s", c.text, fuel, e, whole(r))
			}
		}
		for fuel := range c.steps {
			refused(t, p, nil, fuel, api.ErrSteps)
		}
	}
}

func TestProgramsWithoutEnd(t *testing.T) {
	for _, s := range []string{
		"func main() { while true { } }",
		"func main() { while !false { while false { } } return 1 / 0; }",
		"var g; func main() { while g < 1 { let x = g; } }",
		"func f(n) { while n == n { n = n + 1; } } func main() { return f(0); }",
	} {
		for _, fuel := range []int{-1, 0, 1, 2, 500, 100000} {
			refused(t, parsed(t, s), nil, fuel, api.ErrSteps)
		}
	}
	refused(t, parsed(t, "func main() { return main(); }"), nil, plenty, api.ErrSteps)
	refused(t, parsed(t, "func a() { b(); } func b() { a(); } func main() { a(); }"), nil, plenty, api.ErrSteps)
}

// An input that is asked for again is what it was: an error has changed nothing.
func TestErrorsChangeNothing(t *testing.T) {
	p := parsed(t, "public h[2]; func main() { while true { h[0] = h[0] + 1; } }")
	in := [][]int64{{1, 2, 3}}
	refused(t, p, in, 100, api.ErrSteps)
	if fmt.Sprint(in) != "[[1 2 3]]" || !p.Same(parsed(t, p.Text())) {
		t.Error(in, p.Text())
	}
}

// deepest calls itself until so many calls are within each other, main's too.
func deepest(t *testing.T, text string, calls int) ast.Prog {
	t.Helper()
	return parsed(t, strings.ReplaceAll(text, "N", strconv.Itoa(calls)))
}

func TestDeepest(t *testing.T) {
	if run.MostDeep != 2000 {
		t.Error(run.MostDeep)
	}
	for _, s := range []string{
		"func f(n) { if n == N { return n; } return f(n + 1); } func main() { return f(2); }",
		"func f(n) { if n < N { return f(n + 1); } return n; } func main() { let x = f(2); return x; }",
		"func f(n) { while n < N { return f(n + 1); } return n; } func main() { return 0 + f(2); }",
		"func a(n) { if n == N { return n; } return b(n + 1); } func b(n) { if n == N { return n; } return a(n + 1); } func main() { return a(2); }",
		"var g; func main() { g = g + 1; if g < N { return main(); } return g; }",
		"func e(x) { return x; } func f(n) { if n + 1 >= N { return e(n + 1); } return f(n + 1); } func main() { return f(2); }",
		"var g; func t() { g = g + 1; return g; } func f(n) { t(); if n == N - 1 { return t() + n + 1 - g; } return f(n + 1); } func main() { return f(2); }",
	} {
		for _, n := range []int{3, 4, 100, 1999, 2000} {
			r, e := run.Run(deepest(t, s, n), nil, plenty)
			if e != api.OK || r.Val != int64(n) || r.Deep != n || r.Trap != api.NoTrap {
				t.Error(s, n, e, r.Val, r.Deep, r.Trap)
			}
		}
		for _, n := range []int{2001, 2002, 2500} {
			refused(t, deepest(t, s, n), nil, plenty, api.ErrSteps)
		}
	}
}

// A trap that comes ahead of the call that is one too many is the answer; one that would come in it isn't.
func TestTrapsAtTheDeepest(t *testing.T) {
	p := deepest(t, "func f(n) { if n == N { return f(1 / 0); } return f(n + 1); } func main() { return f(2); }", 2000)
	if r, e := run.Run(p, nil, plenty); e != api.OK || r.Trap != api.Zero || r.Deep != 2000 || r.Val != 0 {
		t.Error(e, whole(r))
	}
	p = deepest(t, "func f(n) { if n == N { return 1 / 0; } return f(n + 1); } func main() { return f(2); }", 2001)
	refused(t, p, nil, plenty, api.ErrSteps)
}

func TestDeep(t *testing.T) {
	const ahead = "func e(x) { return x; } func f(x) { return e(x) + 1; } func g(x) { return f(x); } "
	for s, want := range map[string]int{
		"func main() { }":                                                1,
		"func main() { return 1; }":                                      1,
		"func main() { return 1 / 0; }":                                  1,
		"func main() { return e(1); }":                                   2,
		"func main() { return e(e(e(e(1)))); }":                          2,
		"func main() { e(1); e(2); return e(3) + e(4); }":                2,
		"func main() { return f(1); }":                                   3,
		"func main() { return e(f(1)); }":                                3,
		"func main() { return f(e(1)); }":                                3,
		"func main() { return g(1); }":                                   4,
		"func main() { g(1); f(1); return e(1); }":                       4,
		"func main() { e(1); f(1); g(1); return 1 / 0; }":                4,
		"func main() { if false { g(1); } return e(1); }":                2,
		"func main() { if false && g(1) == 1 { } return e(1); }":         2,
		"func main() { return e(1 / 0); }":                               1,
		"func main() { return f(e(1) / 0); }":                            2,
		"func t(x) { return g(x / 0); } func main() { return t(f(1)); }": 3,
	} {
		if r, e := run.Run(parsed(t, ahead+s), nil, plenty); e != api.OK || r.Deep != want {
			t.Error(s, e, r.Deep, "want", want)
		}
	}
}

func TestWholeResults(t *testing.T) {
	const ahead = "public a; var g; secret h[2]; "
	for _, c := range []struct {
		text string
		want run.Result
	}{
		{"func main() { }", run.Result{Deep: 1, Mem: [][]int64{{3}, {0}, {8, 9}}}},
		{"func main() { g = 5; }", run.Result{Steps: 2, Deep: 1, Mem: [][]int64{{3}, {5}, {8, 9}}}},
		{"func main() { g = 5; return g + a; g = 6; }", run.Result{Val: 8, Steps: 6, Deep: 1, Mem: [][]int64{{3}, {5}, {8, 9}}}},
		{"func main() { a = 0; h[a] = 7; return h[1]; }", run.Result{Val: 9, Steps: 8, Deep: 1, Mem: [][]int64{{0}, {0}, {7, 9}},
			Leaks: []api.Leak{{Kind: api.LeakBranch, A: 1}, {Kind: api.LeakIndex}, {Kind: api.LeakBranch, A: 1}, {Kind: api.LeakIndex, A: 1}}}},
		{"func main() { g = 5; g = a / (a - 3); g = 6; }", run.Result{Trap: api.Zero, Steps: 8, Deep: 1, Mem: [][]int64{{3}, {5}, {8, 9}},
			Leaks: []api.Leak{{Kind: api.LeakBranch}}}},
		{"func main() { g = 10 % a; h[g] = 4; h[a] = 6; return 9; }", run.Result{Trap: api.Bounds, Steps: 10, Deep: 1, Mem: [][]int64{{3}, {1}, {8, 4}},
			Leaks: []api.Leak{{Kind: api.LeakBranch, A: 1}, {Kind: api.LeakDiv, A: 10, B: 3}, {Kind: api.LeakBranch, A: 1}, {Kind: api.LeakIndex, A: 1}, {Kind: api.LeakBranch}}}},
		{"func f() { g = 1; h[0] = 2; g = h[2]; return 3; } func main() { return 1 + f(); }", run.Result{Trap: api.Bounds, Steps: 12, Deep: 2, Mem: [][]int64{{3}, {1}, {2, 9}},
			Leaks: []api.Leak{{Kind: api.LeakBranch, A: 1}, {Kind: api.LeakIndex}, {Kind: api.LeakBranch}}}},
	} {
		r, e := run.Run(parsed(t, ahead+c.text), [][]int64{{3}, {8, 9}}, plenty)
		if e != api.OK || !reflect.DeepEqual(r, c.want) {
			t.Errorf("%s: %d, %s %v", c.text, e, whole(r), r.Mem)
		}
	}
}

// A run keeps nothing for the next one.
func TestRunsAreApart(t *testing.T) {
	p := parsed(t, "var g; public h[2]; func main() { g = g + 1; h[0] = h[0] + g; if g < 2 { return main(); } return h[0] / g; }")
	first, _ := run.Run(p, one(4), plenty)
	text := fmt.Sprint(first)
	second, _ := run.Run(p, one(4), plenty)
	if fmt.Sprint(first) != text || fmt.Sprint(second) != text {
		t.Error(first, second)
	}
	second.Mem[1][0], second.Leaks[0].A = 99, 99
	if fmt.Sprint(first) != text {
		t.Error(first, "shares with", second)
	}
}
