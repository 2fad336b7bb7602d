package build_test

import (
	"strconv"
	"testing"

	"palings/api"
	"palings/run"
	"palings/sim"
)

// Blocks may take six steps for each of the program, and ten more: alike gives them just as many.
func TestStepsOfTheShortest(t *testing.T) {
	for _, c := range []struct {
		text  string
		steps int
	}{
		{"func main() { }", 0},
		{"func f() { return f(); } func main() { }", 0},
		{"func main() { return 7; }", 2},
		{"func f() { } func main() { f(); }", 2},
		{"var h[2]; func main() { return h[2]; }", 3},
		{"var h[2]; func main() { h[1] = 3; }", 3},
		{"var h[2]; func main() { h[1] = h[h[0]]; }", 5},
		{"func main() { return 1 / 0; }", 4},
		{"func main() { if true { } }", 2},
		{"func main() { while false { } }", 2},
		{"func main() { let x = true && false || true; }", 6},
	} {
		p := parsed(t, c.text)
		if r, e := alike(t, p, built(t, p), nil, plenty); e != api.OK || r.Steps != c.steps {
			t.Error(c.text, e, r.Steps, "want", c.steps)
		}
	}
}

// What takes the most steps for each of the program's, again and again, has no room in the ten more.
func TestStepsOfTheLongest(t *testing.T) {
	for _, s := range []string{
		"public n; func main() { while n > 0 { n = n - 1; } }",
		"public n; func main() { let i = 0; while i < n { i = i + 1; } }",
		"public n; func main() { let go = true; let i = 0; while go { i = i + 1; go = i < n; } }",
		"public n; var h[1]; func main() { let i = 0; while i < n { i = i + 1; h[h[h[h[0]]]] = h[0]; } }",
		"public n; var h[1]; func main() { let i = 0; while i < n { i = i + 1; let x = i / i / i % i; } }",
		"public n; func main() { let i = 0; let t = true; while i < n && t && (t || t) { i = i + 1; if !t || !t && !t { } else { } } }",
		"public n; func f() { } func main() { let i = 0; while i < n { i = i + 1; f(); f(); f(); } }",
		"public n; func f(a, b, c, d, e, g) { let x = a; if a > 0 { x = b; b = x; } } func main() { let i = 0; while i < n { i = i + 1; f(i, i, i, i, i, i); } }",
		"public n; func main() { let a = 1; let b = 2; let c = 3; let d = 4; let i = 0; while i < n { let e = a; a = b; b = c; c = d; d = e; i = i + 1; } }",
		"public n; func main() { let i = 0; while i < n { i = i + 1; let j = 0; while j < 1 { j = j + 1; while false { } } } }",
	} {
		p := parsed(t, s)
		q := built(t, p)
		for _, n := range []int64{0, 1, 2, 50, 3000} {
			if _, e := alike(t, p, q, one(n), plenty); e != api.OK {
				t.Error(s, n, e)
			}
		}
	}
}

func TestWithoutEnd(t *testing.T) {
	for _, s := range []string{
		"func main() { while true { } }",
		"func main() { while true { } return 1; }",
		"func main() { while !false { while false { } } return 1 / 0; }",
		"func main() { let x = 1; while x == x { x = x + 1; } return x; }",
		"func main() { let x = true; while x || x { if x && x { } else { return 1; } } return 2; }",
		"var g; func main() { while g < 1 { let x = g; } }",
		"func f(n) { while n == n { n = n + 1; } } func main() { return f(0); }",
		"func f() { return 0; } func main() { while f() == 0 { f(); } }",
		"var h[1]; func main() { while h[0] == 0 / 1 { h[0] = h[0]; } }",
		"func main() { return main(); }",
		"func main() { main(); return 1 / 0; }",
		"func a() { b(); } func b() { a(); } func main() { a(); }",
	} {
		p := parsed(t, s)
		q := built(t, p)
		for _, fuel := range []int{-1, 0, 1, 2, 500, 100000} {
			if _, e := run.Run(p, nil, fuel); e != api.ErrSteps {
				t.Error(s, fuel, e)
			}
			if _, e := sim.Run(q, nil, bound(fuel)); e != api.ErrSteps {
				t.Error(s, fuel, e, "of the blocks")
			}
		}
	}
}

// As many calls may be within each other as of the program, and not one more.
func TestMostCalls(t *testing.T) {
	const text = "public n; var g; func f(k) { g = g + 1; if k > 0 { return f(k - 1) + 1; } return 0; } func main() { return f(n); }"
	p := parsed(t, text)
	q := built(t, p)
	for _, n := range []int64{0, 1, 1000, run.MostDeep - 3, run.MostDeep - 2} {
		r, e := alike(t, p, q, one(n), plenty)
		if e != api.OK || r.Val != n || r.Deep != int(n)+2 {
			t.Error(n, e, r.Val, r.Deep)
		}
	}
	for _, n := range []int64{run.MostDeep - 1, run.MostDeep, 5000} {
		_, e := run.Run(p, one(n), plenty)
		if _, g := sim.Run(q, one(n), plenty); e != api.ErrSteps || g != api.ErrSteps {
			t.Error(n, e, g)
		}
	}
	for _, s := range []string{
		"func f(k, a) { if k == 0 { return a; } return f(k - 1, f(0, k)); } func main() { return f(" + strconv.Itoa(run.MostDeep-2) + ", 0); }",
		"func f(k) { if k > 0 { let x = f(k / 2); return x + f(k / 2) + 1; } return 0; } func main() { return f(500); }",
	} {
		p := parsed(t, s)
		if _, e := alike(t, p, built(t, p), nil, plenty); e != api.OK {
			t.Error(s, e)
		}
	}
}
