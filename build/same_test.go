package build_test

import (
	"fmt"
	"testing"

	"palings/api"
	"palings/ast"
	"palings/word"
)

// tries runs a text on each two words, in a and b, and what it comes to must be what the program comes to.
func tries(t *testing.T, text string, some []int64) {
	t.Helper()
	p := parsed(t, "public a; secret b; "+text)
	q := built(t, p)
	for _, a := range some {
		for _, b := range some {
			alike(t, p, q, [][]int64{{a}, {b}, {3, 1, 4}}, plenty)
		}
	}
}

var few = []int64{-2, -1, 0, 1, 2, 3, 4, 5}

func TestEachOp(t *testing.T) {
	for o := word.Add; o <= word.Le; o++ {
		e := both(o, variable("a"), variable("b"))
		p := around(does(ast.Return, "", e))
		if o.Truth() {
			p = around(does(ast.If, "", e), does(ast.Return, "", num(0)))
			p.Funcs[0].Body[0].Then = []ast.Stmt{does(ast.Return, "", num(1))}
		}
		p.Globals = []ast.Global{{Name: "a", Hold: ast.Open}, {Name: "b", Hold: ast.Closed}}
		for _, a := range words {
			for _, b := range words {
				tryOp(t, p, o, a, b)
			}
		}
	}
}

func tryOp(t *testing.T, p ast.Prog, o word.Op, a, b int64) {
	t.Helper()
	v, ok := word.Do(o, a, b)
	c := do{"", one(a, b), v, api.NoTrap, ""}
	switch {
	case o.Truth():
		c.leaks = fmt.Sprint("b", v)
	case o.Divides() && ok:
		c.leaks = fmt.Sprintf("b1 d%d,%d", a, b)
	case o.Divides():
		c.trap, c.leaks = api.Zero, "b0"
	}
	c.tryTree(t, p)
}

func TestDivisions(t *testing.T) {
	const ahead = "public a; public b; "
	for _, c := range []do{
		{"func main() { return a / b; }", one(-7, 2), -3, 0, "b1 d-7,2"},
		{"func main() { return a % b; }", one(-7, 2), -1, 0, "b1 d-7,2"},
		{"func main() { return a / b; }", one(least, -1), least, 0, "b1 d-9223372036854775808,-1"},
		{"func main() { return a % b; }", one(least, -1), 0, 0, "b1 d-9223372036854775808,-1"},
		{"func main() { return a / b; }", one(5, 0), 0, api.Zero, "b0"},
		{"func main() { return a % b; }", one(5, 0), 0, api.Zero, "b0"},
		{"func main() { return 60 / a / b; }", one(3, 4), 5, 0, "b1 d60,3 b1 d20,4"},
		{"func main() { return 60 / (a / b); }", one(3, 4), 0, api.Zero, "b1 d3,4 b0"},
		{"func main() { return 1 / b / 0 / a; }", one(3, 1), 0, api.Zero, "b1 d1,1 b0"},
		{"func f(x) { return 6 / x + 1 / x; } func main() { return f(a) + f(b) + f(2); }", one(1, 3), 12, 0, "b1 d6,1 b1 d1,1 b1 d6,3 b1 d1,3 b1 d6,2 b1 d1,2"},
	} {
		c.text = ahead + c.text
		c.try(t)
	}
}

// tell leaks what it is given as a division by 1, so that the order of calls is seen.
const tells = "func tell(x) { return x / 1; } "

func TestAndOr(t *testing.T) {
	for _, c := range []do{
		{"func main() { if false && false { return 1; } return 2; }", nil, 2, 0, "b0 b0"},
		{"func main() { if false && true { return 1; } return 2; }", nil, 2, 0, "b0 b0"},
		{"func main() { if true && false { return 1; } return 2; }", nil, 2, 0, "b1 b0"},
		{"func main() { if true && true { return 1; } return 2; }", nil, 1, 0, "b1 b1"},
		{"func main() { if false || false { return 1; } return 2; }", nil, 2, 0, "b0 b0"},
		{"func main() { if false || true { return 1; } return 2; }", nil, 1, 0, "b0 b1"},
		{"func main() { if true || false { return 1; } return 2; }", nil, 1, 0, "b1 b1"},
		{"func main() { if true || true { return 1; } return 2; }", nil, 1, 0, "b1 b1"},
		{"func main() { let x = false && 1 / 0 == 1; if x { return 1; } }", nil, 0, 0, "b0 b0"},
		{"func main() { let x = true || 1 / 0 == 1; if !x { return 1; } }", nil, 0, 0, "b1 b0"},
		{"func main() { let x = true && 1 / 0 == 1; }", nil, 0, api.Zero, "b1 b0"},
		{"func main() { if tell(1) == 0 || tell(2) == 2 { return 5; } }", nil, 5, 0, "b1 d1,1 b0 b1 d2,1 b1"},
		{"func main() { if false && true || false && true { return 1; } }", nil, 0, 0, "b0 b0 b0 b0"},
		{"func main() { if !(false || true) || !false && !!true { return 1; } }", nil, 1, 0, "b0 b0 b1 b1"},
		{"func main() { while tell(1) == 2 || false { } return 4; }", nil, 4, 0, "b1 d1,1 b0 b0"},
	} {
		c.text = tells + c.text
		c.try(t)
	}
}

func TestAndOrWhereverTheyStand(t *testing.T) {
	const yes = "func yes(x) { if x == a || x == b { return 1; } return x / x; } secret h[3]; "
	for _, s := range []string{
		"func main() { if a < b && (a == 0 || yes(a) == 1) || a > 3 && !(b > 3 && a == b) { return 1; } return 2; }",
		"func main() { let x = a < b || a == 2 && b != 3; let y = !x && a > 0; x = x && y || !y; if x { return 1; } if y || x { return 2; } return 3; }",
		"func main() { let x = a == 1; if b == 1 { x = x && a > b || b > 0; } else { x = !(x || a == b); } while x && a < 3 { a = a + 1; x = a < b || a == 3; } if x { return a; } return 0 - a; }",
		"func one(c) { if c > 0 && c < 3 || c == 4 { return 1; } return 0; } func main() { return one(a) * 10 + one(b) * 100 + one(one(a) + one(b)); }",
		"func one(c) { let x = c > 0 && c < 3; let y = 0; if x || c == 4 { y = 2; } return y; } func main() { h[one(a)] = one(b); return h[one(b)] + h[yes(a)]; }",
		"func main() { let i = 0; while i < a && (b < 2 || i < 2 && h[i] != 1) { i = i + 1; } return i; }",
		"func main() { let x = a > 0; let n = 0; while x && n < 4 || b == n && n < 5 { n = n + 1; x = !x || n == 2; } return n; }",
		"func main() { if a / b == 0 && b / a == 0 || a % b == 1 { return 1; } }",
	} {
		tries(t, yes+s, few)
	}
}

func TestCalls(t *testing.T) {
	const ahead = "public g; " + tells
	for _, c := range []do{
		{"func f() { } func main() { return f(); }", nil, 0, 0, ""},
		{"func f(a, b) { return b; } func main() { return f(1, 2); }", nil, 2, 0, ""},
		{"func f(a, b, c, d, e, h) { return a - b * c - d * e * h; } func main() { return f(1, 2, 3, 4, 5, 6); }", nil, -125, 0, ""},
		{"func f(a, b, c) { return tell(a + b + c); } func main() { return f(tell(1), tell(2), tell(3)); }", nil, 6, 0, "b1 d1,1 b1 d2,1 b1 d3,1 b1 d6,1"},
		{"func main() { return tell(8) / tell(2); }", nil, 4, 0, "b1 d8,1 b1 d2,1 b1 d8,2"},
		{"func main() { return tell(8) / (tell(2) - 2); }", nil, 0, api.Zero, "b1 d8,1 b1 d2,1 b0"},
		{"func main() { if tell(1) > tell(2) { return 1; } return 2; }", nil, 2, 0, "b1 d2,1 b1 d1,1 b0"},
		{"func main() { return tell(tell(tell(5))); }", nil, 5, 0, "b1 d5,1 b1 d5,1 b1 d5,1"},
		{"func f(a, b) { return tell(a); } func main() { return f(1, 1 / 0); }", nil, 0, api.Zero, "b0"},
		{"func f(a) { a = a + 1; return a; } func main() { let x = 1; let y = f(x); return x * 10 + y; }", nil, 12, 0, ""},
		{"func f(a, b) { return a * 10 + b; } func main() { let a = 1; let b = 2; return f(b, a); }", nil, 21, 0, ""},
		{"func f() { g = 10; return 1; } func main() { return g + f(); }", one(5), 6, 0, ""},
		{"func f() { g = 10; return 1; } func main() { return f() + g; }", one(5), 11, 0, ""},
		{"func f() { g = 10; return 1; } func e(a, b, c) { return a * 100 + b + c; } func main() { return e(g, f(), g); }", one(5), 511, 0, ""},
		{"func f() { g = 10; return 1; } func main() { g = g + f(); return g; }", one(5), 6, 0, ""},
		{"func f() { g = 10; return 1; } func main() { let x = g; f(); return x * 100 + g; }", one(5), 510, 0, ""},
		{"func f(n) { if n < 2 { return n; } return f(n - 1) + f(n - 2); } func main() { return f(3); }", nil, 2, 0, "b0 b0 b1 b1 b1"},
		{"func f(n) { let m = n; if n > 0 { f(n - 1); } return m; } func main() { return f(2); }", nil, 2, 0, "b1 b1 b0"},
		{"func main() { if g < 3 { g = g + 1; return main() + 1; } return g; }", one(0), 6, 0, "b1 b1 b1 b0"},
		{"func odd(n) { if n == 0 { return 0; } return even(n - 1); } func main() { return odd(5) * 10 + even(5); } func even(n) { if n == 0 { return 1; } return odd(n - 1); }", nil, 10, 0, "b0 b0 b0 b0 b0 b1 b0 b0 b0 b0 b0 b1"},
	} {
		c.text = ahead + c.text
		c.try(t)
	}
}

func TestNames(t *testing.T) {
	for _, c := range []do{
		{"func main() { let x = 1; if true { let y = 2; x = x + y; } if true { let y = 5; let z = 6; x = x + y * z; } return x; }", nil, 33, 0, "b1 b1"},
		{"func main() { if true { let y = true; if y { return 3; } } let y = 2; return y; }", nil, 3, 0, "b1 b1"},
		{"func main() { if false { let y = true; } else { let y = 2; y = y + 1; } let y = 9; return y; }", nil, 9, 0, "b0"},
		{"func main() { let x = 1; if true { let y = 2; if true { let z = 3; x = y + z; } let w = 4; x = x + w + y; } let v = 5; return x + v; }", nil, 16, 0, "b1 b1"},
		{"func main() { let i = 0; let s = 0; while i < 3 { let x = i; x = x + 10; s = s + x; i = i + 1; } return s; }", nil, 33, 0, "b1 b1 b1 b0"},
		{"func main() { let i = 0; let s = 0; while i < 2 { if i == 0 { let x = 5; s = s + x; } else { let y = 7; s = s + y; } i = i + 1; } return s; }", nil, 12, 0, "b1 b1 b1 b0 b0"},
		{"func f(a, b) { a = b; b = 5; return a * 10 + b; } func main() { return f(1, 2); }", nil, 25, 0, ""},
		{"func main() { let x = 1; let y = 2; let i = 0; while i < 3 { let z = x; x = y; y = z; i = i + 1; } return x * 10 + y; }", nil, 21, 0, "b1 b1 b1 b0"},
		{"func main() { let x = 1; let y = x; x = 2; let z = x; y = z; z = 3; return x * 100 + y * 10 + z; }", nil, 223, 0, ""},
		{"var g; func main() { let x = g; g = 5; return x * 10 + g; }", nil, 5, 0, ""},
	} {
		c.try(t)
	}
}

func TestChoices(t *testing.T) {
	for _, s := range []string{
		"func main() { let x = 1; if a < b { x = 2; } return x; }",
		"func main() { let x = 1; if a < b { x = 2; } else { x = 3; } return x; }",
		"func main() { let x = 1; let y = 2; if a < b { x = y; } else { y = x; } return x * 10 + y; }",
		"func main() { let x = 1; if a < b { x = 2; return x * 5; } return x; }",
		"func main() { let x = 1; if a < b { x = 2; } else { x = 3; return x * 5; } return x; }",
		"func main() { let x = 1; if a < b { x = 2; return 7; } else { x = 3; } return x; }",
		"func main() { let x = 1; if a < b { x = 2; return x; } else { x = 3; return x; } x = 4; return x; }",
		"func main() { if a < b { return 1; } else if a == b { return 2; } else { return 3; } }",
		"func main() { let x = 0; if a < b { x = 1; } else if a == b { x = 2; } else if a == 3 { return 9; } else { x = 3; } return x * 2; }",
		"func main() { let x = 0; if a < b { if a == 1 { x = 1; } else { return 5; } x = x + 10; } return x; }",
		"func main() { let x = 0; if a < b { if a == 1 { return 4; } else { return 5; } x = 99; } else { x = 6; } return x; }",
		"func main() { let x = a; if x < 1 { let y = x; x = y * 2; if y == 0 { let z = 4; y = z; x = x + z; } x = x + y; } else { let y = 7; x = x - y; } let y = x; return y; }",
		"func main() { let x = a; if a < b { } else { } if a == b { } return x; }",
		"func main() { if a < b { a = 5; } return a; }",
		"func main() { if a < b { if a < 0 { return 1; } } }",
		"func f(x, y) { if x < y { let z = x; x = y; y = z; } if y == 0 { return x; } return f(y, x % y); } func main() { return f(a, b); }",
		"func main() { let t = a < b; if t { t = a == 1; } if t { return 1; } return 2; }",
	} {
		tries(t, s, few)
	}
}

func TestLoops(t *testing.T) {
	const ahead = "secret h[3]; "
	for _, s := range []string{
		"func main() { while a > 0 { a = a - 1; } return a; }",
		"func main() { let i = 0; let x = 1; let y = 1; while i < a { let z = x + y; x = y; y = z; i = i + 1; } return x * 100 + y; }",
		"func main() { let i = 0; let n = 0; while i < a { let j = i; while j < b { n = n * 3 + j; j = j + 1; if n > 50 { return n; } } i = i + 1; } return n; }",
		"func main() { let i = 0; let n = 0; while i < a { while i < b { i = i + 2; n = n + 1; } i = i + 1; } return i * 100 + n; }",
		"func main() { let i = 0; while true { i = i + 1; if i > a { return i; } if i > b { i = i * 2; } } }",
		"func main() { let i = 0; while i < 3 { if h[i] == a { return i; } i = i + 1; } return 0 - 1; }",
		"func main() { let i = 0; let x = 0; while i < 3 { if h[i] == a { x = i; return x; } i = i + 1; } return x - 1; }",
		"func main() { while a < 3 { return 5; } return 6; }",
		"func main() { while a < 3 { if b < 2 { return 5; } else { return 7; } } return 6; }",
		"func main() { let x = 0; while x < 3 { x = a; return x; } return x; }",
		"func f(x) { a = a + 1; return a + x; } func main() { let i = 0; while f(i) < b { i = i + 1; } return i * 10 + a; }",
		"func f(x) { while x < 4 { x = x + 1; if x == b { return x * 10; } } } func main() { return f(a) + f(b) + f(f(a)); }",
		"func main() { let i = 0; while i < 3 { let x = h[i]; if x > a { let y = x - a; h[i] = y; } else { let y = true; if y && x == b { return i; } } i = i + 1; } return h[0] * 100 + h[1] * 10 + h[2]; }",
		"func main() { let x = 1; while x < a { let x2 = x; while x2 < b { x2 = x2 + x; } x = x2 + 1; } return x; }",
		"func main() { let go = true; let n = 0; while go { n = n + 1; go = n < a && n < 5; } return n; }",
		"func main() { let x = 1; let y = 2; while x < a { x = x + y; } while y < b { y = y + x; } return x * 100 + y; }",
		"func main() { let x = 1; let y = a; while false { x = 2; } while y < 3 { while y < 2 { while y < 1 { y = y + 1; x = x * 2; } y = y + 1; x = x + 1; } y = y + 1; } return x; }",
		"func main() { let i = a; while i < 6 { i = i + 1; if i == 3 { while i < b { i = i + 2; } } else if i == 4 { if b == 2 { return 1; } } else { i = i + 1; } } return i; }",
		"func main() { let d = b; while a < 4 { a = a + 1; d = d - 1; a = a + 6 / d; } return a; }",
	} {
		tries(t, ahead+s, few)
	}
}

func TestWhatIsBehindAReturn(t *testing.T) {
	for _, c := range []do{
		{"func main() { return 1; return 2; }", nil, 1, 0, ""},
		{"func main() { return 1; let x = 2; x = 3; if x < 2 { return 1 / 0; } while true { } }", nil, 1, 0, ""},
		{"func main() { if true { return 1; let x = 2; } let x = 3; return x; }", nil, 1, 0, "b1"},
		{"func main() { if false { return 1; let x = 2; } let x = 3; return x; }", nil, 3, 0, "b0"},
		{"func main() { while true { return 1; while true { let y = 4; } } let y = 5; }", nil, 1, 0, "b1"},
		{"func main() { let x = 1; while x < 3 { x = x + 1; if x == 2 { if true { } else { return 7; } } else { return x; x = 9; } } return 8; }", nil, 3, 0, "b1 b1 b1 b1 b0"},
		{"func main() { let x = 0; while x < 2 { if x == 5 { return 1; while x < 9 { x = x + 1; } } while x < 2 { x = x + 1; } } return x; }", nil, 2, 0, "b1 b0 b1 b1 b0 b0"},
		{"func main() { if true { return 1; } else { return 2; } while true { } }", nil, 1, 0, "b1"},
		{"func f() { return 4; return 5; } func main() { return f() + f(); }", nil, 8, 0, ""},
	} {
		c.try(t)
	}
}

func TestEndsWithoutAReturn(t *testing.T) {
	for _, c := range []do{
		{"func main() { }", nil, 0, 0, ""},
		{"func main() { let x = 5; }", nil, 0, 0, ""},
		{"func f() { let x = 7; } func main() { return f() + 1; }", nil, 1, 0, ""},
		{"func f(x) { if x == 1 { return 7; } } func main() { return f(1) * 10 + f(2); }", nil, 70, 0, "b1 b0"},
		{"func f(x) { if x == 1 { } else { return 7; } } func main() { return f(1) * 10 + f(2); }", nil, 7, 0, "b1 b0"},
		{"func f(x) { while x < 2 { return 7; } } func main() { return f(1) * 10 + f(2); }", nil, 70, 0, "b1 b0"},
	} {
		c.try(t)
	}
}

func TestIndices(t *testing.T) {
	for _, size := range []int{1, 2, 3, 64, 4095, 4096} {
		last := int64(size - 1)
		load := around(does(ast.Return, "", index("h", variable("a"))))
		store := around(does(ast.Put, "h", variable("a"), num(6)), does(ast.Return, "", index("h", variable("a"))))
		load.Globals = []ast.Global{{Name: "h", Hold: ast.Closed, Size: size}, {Name: "a", Hold: ast.Open}}
		store.Globals = load.Globals
		list := make([]int64, size)
		for i := range list {
			list[i] = int64(i) + 10
		}
		for _, a := range []int64{0, last, last / 2} {
			do{"", [][]int64{list, {a}}, a + 10, 0, fmt.Sprint("b1 i", a)}.tryTree(t, load)
			do{"", [][]int64{list, {a}}, 6, 0, fmt.Sprintf("b1 i%d b1 i%d", a, a)}.tryTree(t, store)
		}
		for _, a := range []int64{last + 1, last + 2, -1, -last - 1, least, least + 1, least + last, most, 1 << 32, 1<<32 + last} {
			do{"", [][]int64{list, {a}}, 0, api.Bounds, "b0"}.tryTree(t, load)
			do{"", [][]int64{list, {a}}, 0, api.Bounds, "b0"}.tryTree(t, store)
		}
	}
}

func TestOrderOfIndices(t *testing.T) {
	const ahead = "public a; secret h[3]; var k[1]; " + tells
	for _, c := range []do{
		{"func main() { return h[h[a] - 10]; }", one(2), 12, 0, "b1 i2 b1 i2"},
		{"func main() { return h[h[a]]; }", one(2), 0, api.Bounds, "b1 i2 b0"},
		{"func main() { return h[1 / a]; }", one(0), 0, api.Zero, "b0"},
		{"func main() { return h[tell(1)] + h[tell(2)]; }", one(0), 23, 0, "b1 d1,1 b1 i1 b1 d2,1 b1 i2"},
		{"func main() { return h[3] + tell(2); }", one(0), 0, api.Bounds, "b0"},
		{"func w() { h[1] = 50; return 1; } func main() { return h[w()]; }", one(0), 50, 0, "b1 i1 b1 i1"},
		{"func w() { h[1] = 50; return 1; } func main() { return h[1] + w() + h[1]; }", one(0), 62, 0, "b1 i1 b1 i1 b1 i1"},
		{"func main() { h[tell(1)] = tell(2); }", one(0), 0, 0, "b1 d1,1 b1 d2,1 b1 i1"},
		{"func main() { h[9] = tell(2); }", one(0), 0, api.Bounds, "b1 d2,1 b0"},
		{"func main() { h[9] = 1 / a; }", one(0), 0, api.Zero, "b0"},
		{"func main() { h[9] = k[a]; }", one(0), 0, api.Bounds, "b1 i0 b0"},
		{"func main() { h[h[0] - 10] = h[1] + 6; return h[0]; }", one(0), 17, 0, "b1 i0 b1 i1 b1 i0 b1 i0"},
		{"func f() { a = 2; return 3; } func main() { h[a] = f(); return h[1]; }", one(1), 3, 0, "b1 i1 b1 i1"},
		{"func f() { a = 2; return 1; } func main() { h[f()] = a; return h[1]; }", one(0), 2, 0, "b1 i1 b1 i1"},
	} {
		c.text = ahead + c.text
		c.in = append(c.in, []int64{10, 11, 12})
		c.try(t)
	}
}

// What was done ahead of a trap is done.
func TestTrapsMidway(t *testing.T) {
	const ahead = "secret h[3]; var g; "
	for _, s := range []string{
		"func main() { h[0] = 7; g = 1 / a; h[1] = 8; h[b] = 9; h[2] = 5; g = 4; return g; }",
		"func f(x) { g = g + x; h[x] = g; return 6 / x; } func main() { let i = a; while i > 0 - 3 { b = b + f(i); i = i - 1; } return b; }",
		"func main() { let i = 0; while i < 5 { h[i] = i + a; if i == b { g = i / (i - a); } i = i + 1; } return g; }",
		"func f(x, y, z) { g = g * 10 + z; return x / y; } func main() { return f(f(a, b, 1), f(b, a, 2), 3); }",
		"func main() { g = 1; if h[a] == 1 && h[b] != 3 || 1 / b == 1 { g = 2; } h[0] = 9; return 5 % a; }",
	} {
		tries(t, ahead+s, few)
	}
}

// Inputs may be fewer than there are arrays, or more, and shorter than these, or longer.
func TestInputs(t *testing.T) {
	p := parsed(t, "var v; public a; secret h[3]; var w[2]; public k[1]; secret b; func main() { w[1] = h[a] + k[0]; v = b; h[0] = a; return v + w[1] + w[0]; }")
	q := built(t, p)
	for _, in := range [][][]int64{
		nil,
		{},
		{nil, nil, nil, nil},
		{{1}},
		{{1}, {5, 6, 7}},
		{{1}, {5, 6}, {8}, {9}},
		{{1, 2, 3}, {5, 6, 7, 8, 9, 10}, {8, 9}, {9, 10}},
		{{1}, {5, 6, 7}, {8}, {9}, {11}, {12, 13}},
		{{}, {5}, {}, {9}},
		{{2}, {5, 6}, nil, {9}},
		{{3}, {5, 6, 7, 8}},
		{{-1}, {5, 6, 7, 8}, {4}},
	} {
		alike(t, p, q, in, plenty)
	}
}

// Trees may be what no text says: Truths of other numbers, Kids, expressions and blocks that nobody asks for, and Runs of anything.
func TestOddTrees(t *testing.T) {
	for _, n := range []int64{1, 2, -1, least, most, 1 << 32} {
		do{"", nil, 0, 0, "b1"}.tryTree(t, around(does(ast.If, "", truth(n))))
		do{"", nil, 0, 0, "b0"}.tryTree(t, around(does(ast.If, "", of(ast.Not, truth(n)))))
		do{"", nil, 0, 0, "b1"}.tryTree(t, around(does(ast.If, "", of(ast.Not, of(ast.Not, truth(n))))))
		do{"", nil, 0, 0, "b1 b1"}.tryTree(t, around(does(ast.If, "", of(ast.Or, truth(n), truth(0)))))
		do{"", nil, 0, 0, "b1 b1 b0"}.tryTree(t, around(does(ast.If, "", of(ast.And, truth(n), of(ast.And, truth(n), truth(0))))))
	}
	trapped := both(word.Div, num(1), num(0))
	seven, yes, name := num(7), truth(1), variable("x")
	seven.Kids, yes.Kids, name.Kids = []ast.Expr{trapped}, []ast.Expr{trapped}, []ast.Expr{trapped}
	p := around(does(ast.Let, "x", seven, trapped), does(ast.If, "", yes, trapped), does(ast.Return, "", name, trapped))
	p.Funcs[0].Body[0].Then = []ast.Stmt{does(ast.Run, "", trapped)}
	p.Funcs[0].Body[2].Else = []ast.Stmt{does(ast.Run, "", trapped)}
	do{"", nil, 7, 0, "b1"}.tryTree(t, p)
	p = around(does(ast.Run, "", num(7)), does(ast.Run, "", both(word.Mod, num(7), num(2))))
	do{"", nil, 0, 0, "b1 d7,2"}.tryTree(t, p)
	p = parsed(t, "func main() { let x = 1; while x < 3 { x = x + 1; } return x; }")
	p.Funcs[0].Body[1].Else = []ast.Stmt{does(ast.Set, "x", num(9)), does(ast.Return, "", num(5))}
	do{"", nil, 3, 0, "b1 b1 b0"}.tryTree(t, p)
}
