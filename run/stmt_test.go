package run_test

import (
	"fmt"
	"testing"

	"palings/api"
	"palings/ast"
	"palings/run"
)

func TestLet(t *testing.T) {
	for _, c := range []do{
		{"func main() { let x = 3; }", nil, 0, 0, 2, ""},
		{"func main() { let x = 3; let y = x + 1; return x * 10 + y; }", nil, 34, 0, 12, ""},
		{"func main() { let x = 7 / 2; return x; }", nil, 3, 0, 6, "b1 d7,2"},
		{"func main() { let x = 1; if true { let y = 2; x = x + y; } if true { let y = 5; let z = 6; x = x + y * z; } return x; }", nil, 33, 0, 24, "b1 b1"},
		{"func main() { if true { let y = true; if y { return 3; } } let y = 2; return y; }", nil, 3, 0, 8, "b1 b1"},
		{"func main() { if false { let y = true; } else { let y = 2; y = y + 1; } let y = 9; return y; }", nil, 9, 0, 12, "b0"},
		{"func main() { let x = 1; if true { let y = 2; if true { let z = 3; x = y + z; } let w = 4; x = x + w + y; } let v = 5; return x + v; }", nil, 16, 0, 28, "b1 b1"},
		// A let in a block that is run again holds nothing of what it was.
		{"func main() { let i = 0; let s = 0; while i < 3 { let x = i; x = x + 10; s = s + x; i = i + 1; } return s; }", nil, 33, 0, 61, "b1 b1 b1 b0"},
		{"func main() { let i = 0; let s = 0; while i < 2 { if i == 0 { let x = 5; s = s + x; } else { let y = 7; s = s + y; } i = i + 1; } return s; }", nil, 12, 0, 44, "b1 b1 b1 b0 b0"},
		{"func f(n) { let a = n; let b = a * 2; if n > 0 { let c = f(n - 1); b = b + c; } return a + b; } func main() { return f(2); }", nil, 9, 0, 63, "b1 b1 b0"},
	} {
		c.try(t)
	}
}

func TestSet(t *testing.T) {
	for _, c := range []do{
		{"func main() { let x = 3; x = 4; return x; }", nil, 4, 0, 6, ""},
		{"func main() { let x = true; x = false; if x { return 1; } return 2; }", nil, 2, 0, 8, "b0"},
		{"func main() { let x = 3; x = x / 2; x = x / 0; }", nil, 0, api.Zero, 10, "b1 d3,2 b0"},
		{"func f(a, b) { a = b; b = 5; return a * 10 + b; } func main() { return f(1, 2); }", nil, 25, 0, 14, ""},
		{"public g; func main() { g = g + 1; return g; }", one(4), 5, 0, 6, ""},
		{"public g; func f() { g = 10; return 1; } func main() { g = f(); return g; }", one(4), 1, 0, 8, ""},
		{"public g; func f() { g = 10; return 1; } func main() { let x = g; f(); return x * 100 + g; }", one(4), 410, 0, 14, ""},
		{"var a; var b; func main() { a = 1; b = 2; if true { a = b; } return a * 10 + b; }", nil, 22, 0, 14, "b1"},
		{"func main() { let x = 1; if true { x = 2; if true { x = x + 2; } } return x; }", nil, 4, 0, 14, "b1 b1"},
	} {
		c.try(t)
	}
	p := parsed(t, "public a; var g; var h[2]; secret s; func f(a1) { g = a1; s = s + g; return g; } func main() { h[0] = f(7); a = f(8); }")
	r, e := run.Run(p, one(1, 2), plenty)
	if got := fmt.Sprint(r.Mem); e != api.OK || got != "[[8] [8] [7 0] [17]]" {
		t.Error(e, got)
	}
}

func TestPut(t *testing.T) {
	const ahead = "public a; var h[3]; public k[2]; " + tells
	for _, c := range []struct {
		do
		mem string
	}{
		{do{"func main() { h[0] = 5; }", one(0), 0, 0, 3, "b1 i0"}, "[5 0 0]"},
		{do{"func main() { h[a] = 5; }", one(2), 0, 0, 3, "b1 i2"}, "[0 0 5]"},
		{do{"func main() { h[a] = 5; }", one(3), 0, api.Bounds, 3, "b0"}, "[0 0 0]"},
		{do{"func main() { h[a] = 5; }", one(-1), 0, api.Bounds, 3, "b0"}, "[0 0 0]"},
		{do{"func main() { h[a] = 5; }", one(least), 0, api.Bounds, 3, "b0"}, "[0 0 0]"},
		{do{"func main() { h[a] = 5; }", one(most), 0, api.Bounds, 3, "b0"}, "[0 0 0]"},
		{do{"func main() { h[a] = 5; }", one(1 << 32), 0, api.Bounds, 3, "b0"}, "[0 0 0]"},
		{do{"func main() { h[t(1)] = t(2); }", one(0), 0, 0, 13, "b1 d1,1 b1 d2,1 b1 i1"}, "[0 2 0]"},
		{do{"func main() { h[9] = t(2); }", one(0), 0, api.Bounds, 8, "b1 d2,1 b0"}, "[0 0 0]"},
		{do{"func main() { h[9] = 1 / a; }", one(0), 0, api.Zero, 5, "b0"}, "[0 0 0]"},
		{do{"func main() { h[1 / a] = h[9]; }", one(0), 0, api.Zero, 4, "b0"}, "[0 0 0]"},
		{do{"func main() { h[9] = k[a]; }", one(1), 0, api.Bounds, 4, "b1 i1 b0"}, "[0 0 0]"},
		{do{"func main() { h[h[0]] = h[1] + 6; return h[0]; }", one(0), 6, 0, 10, "b1 i0 b1 i1 b1 i0 b1 i0"}, "[6 0 0]"},
		{do{"func f() { h[1] = 8; return 3; } func main() { h[1] = f(); }", one(0), 0, 0, 8, "b1 i1 b1 i1"}, "[0 3 0]"},
		{do{"func f() { a = 2; return 3; } func main() { h[a] = f(); }", one(1), 0, 0, 7, "b1 i1"}, "[0 3 0]"},
		{do{"func f() { a = 2; return 1; } func main() { h[f()] = a; }", one(0), 0, 0, 7, "b1 i1"}, "[0 2 0]"},
		{do{"func main() { h[0] = 1; h[1] = 2; h[3] = 3; h[2] = 4; }", one(0), 0, api.Bounds, 9, "b1 i0 b1 i1 b0"}, "[1 2 0]"},
	} {
		tryBehind(t, ahead, c.do)
		r, _ := run.Run(parsed(t, ahead+c.text), c.in, plenty)
		if got := fmt.Sprint(r.Mem[1]); got != c.mem {
			t.Error(c.text, c.in, got, "want", c.mem)
		}
	}
}

func TestIf(t *testing.T) {
	const ahead = "public a; " + tells
	for _, c := range []do{
		{"func main() { if true { } }", nil, 0, 0, 2, "b1"},
		{"func main() { if false { } }", nil, 0, 0, 2, "b0"},
		{"func main() { if true { return 1; } }", nil, 1, 0, 4, "b1"},
		{"func main() { if false { return 1; } }", nil, 0, 0, 2, "b0"},
		{"func main() { if true { return 1; } else { return 2; } return 3; }", nil, 1, 0, 4, "b1"},
		{"func main() { if false { return 1; } else { return 2; } return 3; }", nil, 2, 0, 4, "b0"},
		{"func main() { if true { t(1); } else { t(2); } return t(3); }", nil, 3, 0, 16, "b1 b1 d1,1 b1 d3,1"},
		{"func main() { if false { t(1); } else { t(2); } return t(3); }", nil, 3, 0, 16, "b0 b1 d2,1 b1 d3,1"},
		{"func main() { if a == 1 { return 10; } else if a == 2 { return 20; } else { return 30; } }", one(1), 10, 0, 6, "b1"},
		{"func main() { if a == 1 { return 10; } else if a == 2 { return 20; } else { return 30; } }", one(2), 20, 0, 10, "b0 b1"},
		{"func main() { if a == 1 { return 10; } else if a == 2 { return 20; } else { return 30; } }", one(3), 30, 0, 10, "b0 b0"},
		{"func main() { if 1 / a == 1 { return 2; } else { return 3; } }", one(0), 0, api.Zero, 5, "b0"},
		{"func main() { if true { if false { } else { return 1 / a; } } return 3; }", one(0), 0, api.Zero, 8, "b1 b0 b0"},
	} {
		tryBehind(t, ahead, c)
	}
}

func TestWhile(t *testing.T) {
	const ahead = "public a; " + tells
	for _, c := range []do{
		{"func main() { while false { return 1; } }", nil, 0, 0, 2, "b0"},
		{"func main() { while a > 0 { a = a - 1; } return a; }", one(0), 0, 0, 6, "b0"},
		{"func main() { while a > 0 { a = a - 1; } return a; }", one(1), 0, 0, 13, "b1 b0"},
		{"func main() { while a > 0 { a = a - 1; } return a; }", one(4), 0, 0, 34, "b1 b1 b1 b1 b0"},
		{"func main() { while true { return 8; } return 9; }", nil, 8, 0, 4, "b1"},
		{"func main() { while true { a = a + 1; if a == 3 { return a; } } }", one(0), 3, 0, 30, "b1 b0 b1 b0 b1 b1"},
		{"func main() { while t(a) < 2 { a = a + 1; } return a; }", one(0), 2, 0, 35, "b1 d0,1 b1 b1 d1,1 b1 b1 d2,1 b0"},
		{"func main() { while 6 / a > 0 { a = a - 1; } return a; }", one(2), 0, api.Zero, 24, "b1 d6,2 b1 b1 d6,1 b1 b0"},
		{"func main() { let i = 0; let n = 0; while i < 2 { let j = 0; while j < 2 { n = n * 3 + i + j; j = j + 1; } i = i + 1; } return n; }", nil, 14, 0, 96, "b1 b1 b1 b0 b1 b1 b1 b0 b0"},
		{"func f() { let i = 0; while i < 9 { let j = 0; while j < 9 { if i + j == 1 { return i * 10 + j; } j = j + 2; } i = i + 1; } } func main() { return 5 + f() * 2; }", nil, 25, 0, 108,
			"b1 b1 b0 b1 b0 b1 b0 b1 b0 b1 b0 b0 b1 b1 b1"},
	} {
		tryBehind(t, ahead, c)
	}
	p := parsed(t, "func main() { while false { } return 4; }")
	p.Funcs[0].Body[0].Else = []ast.Stmt{does(ast.Return, "", num(5))}
	do{"", nil, 4, 0, 4, "b0"}.tryTree(t, p)
}

// A Return, and a trap, come out of whatever they are in, and what is under way there is let go.
func TestWaysOut(t *testing.T) {
	const ahead = "public a; var g; var h[2]; " + tells
	for _, c := range []do{
		{"func f() { if true { while true { if true { return 3; } } } } func main() { return 1 + 2 * f(); }", nil, 7, 0, 14, "b1 b1 b1"},
		{"func f(x) { if x > 0 { return 100 + f(x - 1); } return 1; } func main() { return 1000 + f(2) + f(0); }", nil, 1202, 0, 42, "b1 b1 b0 b0"},
		{"func main() { f(); return 6; } func f() { return 5; }", nil, 6, 0, 6, ""},
		{"func main() { f(); f(); return g; } func f() { g = g + 1; }", nil, 2, 0, 14, ""},
		{"func f(x) { return 1 / x; } func main() { g = 1; g = 2 + f(a) * t(3); g = 4; }", one(0), 0, api.Zero, 12, "b0"},
		{"func f(x) { return h[x]; } func main() { return t(1 + f(a + 2)) + t(2); }", one(0), 0, api.Bounds, 12, "b0"},
		{"func f(x) { h[x] = 1; return x; } func main() { while f(a) < 9 { a = a + 1; } return 3; }", one(0), 0, api.Bounds, 33, "b1 i0 b1 b1 i1 b1 b0"},
		{"func f(x) { while true { if x == 0 { return 7 % x; } x = x - 1; } } func main() { if f(a) == 1 { return 1; } return 2; }", one(1), 0, api.Zero, 23, "b1 b0 b1 b1 b0"},
		{"func f(x) { if x == 0 { return g / x; } return f(x - 1) + 1; } func main() { return f(2); }", one(1), 0, api.Zero, 31, "b0 b0 b1 b0"},
		{"func main() { return t(1 / 0) + t(2); }", nil, 0, api.Zero, 6, "b0"},
	} {
		tryBehind(t, ahead, c)
	}
}
