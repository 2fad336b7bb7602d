package build_test

import (
	"fmt"
	"reflect"
	"slices"
	"strings"
	"testing"

	"palings/api"
	"palings/ast"
	"palings/ssa"
)

func TestOneBlock(t *testing.T) {
	got := built(t, parsed(t, "func main() { return 1; }"))
	want := ssa.Prog{Funcs: []ssa.Func{{Name: "main", Blocks: []ssa.Block{{
		Ins: []ssa.Ins{{Op: ssa.Const, Dst: 1, Num: 1}},
		End: ssa.End{Kind: ssa.Return, Val: 1},
	}}}}}
	if fmt.Sprint(got) != fmt.Sprint(want) {
		t.Error(got)
	}
	for _, s := range []string{
		"func main() { }",
		"func main() { let x = 1; let y = x; x = y + 2; return x - y; return 7; }",
		"var a; func main() { a = a * a; main(); let b = !(a < 3); }",
		"func main() { return 1; if true { return 2; } while true { } }",
	} {
		if q := built(t, parsed(t, s)); len(q.Funcs[0].Blocks) != 1 {
			t.Error(s, q)
		}
	}
}

func TestArraysAndFunctions(t *testing.T) {
	globals := "var a; public b; secret c; var d[1]; public e[4096]; secret f[7]; "
	arrays := []ssa.Array{
		{Name: "a"},
		{Name: "b", Hold: ast.Open},
		{Name: "c", Hold: ast.Closed},
		{Name: "d", Size: 1},
		{Name: "e", Hold: ast.Open, Size: 4096},
		{Name: "f", Hold: ast.Closed, Size: 7},
	}
	others := []string{"f0()", "f1(x, y, z, u, v, w)", "f2(x)"}
	params := map[string]int{"main()": 0, "f0()": 0, "f1(x, y, z, u, v, w)": 6, "f2(x)": 1}
	for at := range 4 {
		list := slices.Insert(slices.Clone(others), at, "main()")
		text := globals
		for _, head := range list {
			text += "func " + head + " { return a + e[0]; } "
		}
		q := built(t, parsed(t, text))
		if q.Main != at || !reflect.DeepEqual(q.Arrays, arrays) {
			t.Error(at, q.Main, q.Arrays)
		}
		for i, f := range q.Funcs {
			if name, _, _ := strings.Cut(list[i], "("); f.Name != name || len(f.Params()) != params[list[i]] {
				t.Error(at, i, f.Name, f.Params(), "want", list[i])
			}
		}
	}
}

func TestAsManyAsThereMayBe(t *testing.T) {
	text := "func main() { } "
	for i := range api.MaxVars {
		text += fmt.Sprintf("public g%d[%d]; ", i, i+1)
	}
	for i := range api.MaxFuncs - 1 {
		text += fmt.Sprintf("func f%d(a) { return a + %d; } ", i, i)
	}
	q := built(t, parsed(t, text))
	for i, a := range q.Arrays {
		if a != (ssa.Array{Name: fmt.Sprint("g", i), Hold: ast.Open, Size: i + 1}) {
			t.Error(i, a)
		}
	}
	for i, f := range q.Funcs[1:] {
		if f.Name != fmt.Sprint("f", i) || f.Blocks[0].Ins[0].Num != int64(i) {
			t.Error(i, f)
		}
	}
	if len(q.Arrays) != api.MaxVars || len(q.Funcs) != api.MaxFuncs || q.Main != 0 {
		t.Error(len(q.Arrays), len(q.Funcs), q.Main)
	}
}

// Names of trees may be what no text has.
func TestOddNames(t *testing.T) {
	p := around(does(ast.Let, "", index(" ", num(0))), does(ast.If, "", truth(1)), does(ast.Return, "", variable("")))
	p.Funcs[0].Body[1].Then = []ast.Stmt{does(ast.Set, "", ast.Expr{Kind: ast.Call, Name: "0\x00", Kids: []ast.Expr{variable("")}})}
	p.Globals = []ast.Global{{Name: " ", Hold: ast.Open, Size: 1}}
	p.Funcs = append(p.Funcs, ast.Func{Name: "0\x00", Params: []string{"\xff"}, Body: []ast.Stmt{does(ast.Return, "", both(1, variable("\xff"), num(1)))}})
	do{"", one(7), 8, 0, "b1 i0 b1"}.tryTree(t, p)
}

// shapes is programs on whose blocks more is asked than that they do what is asked.
var shapes = []string{
	"func main() { if true { return 1; } else { return 2; } return 3; while true { } }",
	"func main() { let x = 1; if x == 1 { x = 2; } else { x = 3; } return x; }",
	"func main() { let x = 1; let y = 2; while x < y { let z = x; x = z + 1; if x == 5 { y = 9; return y; } } return y; }",
	"func f(a, b) { while a < b { while b < 10 { b = b + 1; } a = a + 1; } return a; } func main() { return f(1, 2); }",
	"public h[4]; func main() { let i = 0; let t = 0; while i < 4 { t = h[i] / h[0]; h[i] = t; i = i + 1; } return h[1] % h[2]; }",
	"func main() { let x = true && false || true; if x && (true || x) { if !x { return 1; } } }",
	"func main() { while true { let x = 1; if x == 1 { return x; } else { return 2; } } }",
}

func TestAllBlocksAreComeTo(t *testing.T) {
	for _, s := range shapes {
		allReached(t, built(t, parsed(t, s)))
	}
}

func allReached(t *testing.T, q ssa.Prog) {
	t.Helper()
	for _, f := range q.Funcs {
		traps := map[api.Trap]int{}
		for b, can := range f.Reach() {
			if !can {
				t.Errorf("the block %d is not come to of %+v", b, f)
			}
			if e := f.Blocks[b].End; e.Kind == ssa.Trap {
				traps[e.Trap]++
			}
		}
		if traps[api.Bounds] > 1 || traps[api.Zero] > 1 {
			t.Errorf("traps %v of %+v", traps, f)
		}
	}
}

// A block ends only where ways part, or meet.
func TestHowManyBlocks(t *testing.T) {
	for _, c := range []struct {
		text string
		want int
	}{
		{"func main() { let x = 1; if x == 1 { return 2; } return x; }", 3},
		{"func main() { let x = 1; if x == 1 { return 2; } else { x = 3; } return x; }", 3},
		{"func main() { let x = 1; if x == 1 { x = 3; } else { return 2; } return x; }", 3},
		{"func main() { let x = 1; if x == 1 { x = 3; } return x; }", 3},
		{"func main() { let x = 1; if x == 1 { x = 3; } else { x = 4; } return x; }", 4},
		{"func main() { let x = 1; if x == 1 { return 3; } else { return 4; } return x; }", 3},
		{"func main() { let x = 1; if x == 1 { if x == 2 { return 3; } else { x = 4; } } else { return 4; } return x; }", 5},
		{"func main() { let x = 1; while x < 3 { x = x + 1; } return x; }", 4},
		{"func main() { let x = true && false; return 1; }", 3},
		{"func main() { return 1 / 2 + 3 % 4; }", 4},
		{"var h[2]; func main() { h[h[0]] = h[1] / 2; }", 7},
	} {
		q := built(t, parsed(t, c.text))
		if got := len(q.Funcs[0].Blocks); got != c.want {
			t.Errorf("%s: %d blocks, want %d", c.text, got, c.want)
		}
	}
}

// params is how many parameters the blocks of main have.
func params(q ssa.Prog) int {
	n := 0
	for _, b := range q.Funcs[q.Main].Blocks {
		n += len(b.Params)
	}
	return n
}

// A name has a parameter only where it may have several values, one of which is asked for.
func TestParameters(t *testing.T) {
	for _, c := range []struct {
		text string
		want int
	}{
		{"func main() { let x = 1; if x == 1 { x = 2; } return x; }", 1},
		{"func main() { let x = 1; if x == 1 { x = 2; } else { x = 3; } return x; }", 1},
		{"func main() { let x = 1; if x == 1 { x = 2; } }", 0},
		{"func main() { let x = 1; if x == 1 { x = 2; } x = 3; return x; }", 0},
		{"func main() { let x = 1; if x == 1 { x = x; } return x; }", 0},
		{"func main() { let x = 1; if x == 1 { x = 2; return x; } return x; }", 0},
		{"func main() { let x = 1; if x == 1 { } else { x = 2; return x; } return x; }", 0},
		{"func main() { let x = 1; if x == 1 { let y = 2; y = 3; } return x; }", 0},
		{"func main() { let x = 1; let y = x; if x == 1 { x = 2; y = x; } return x + y; }", 2},
		{"func main() { let x = 1; let y = 2; while x < 9 { x = x + y; } return y; }", 1},
		{"func main() { let x = 1; let y = 2; while x < 9 { x = x + y; y = x; } return y; }", 2},
		{"func main() { let x = 1; let y = 2; while x < 9 { x = x + 1; y = x; } return x; }", 1},
		{"func main() { let x = 1; while true { x = 2; } }", 0},
		{"func main() { let x = 1; while true { x = 2; return x; } return x; }", 0},
		{"func main() { let x = 1; while true { if x == 1 { x = 2; return x; } } return x; }", 0},
		{"func main() { let x = 1; while true { let y = 2; y = 3; } return x; }", 0},
		{"func main() { let x = 1; while x < 5 { while x < 3 { x = x + 1; } x = x + 1; } return x; }", 2},
		{"func main() { if true && false { return 1; } }", 1},
		{"func main() { let x = true || false; let y = !x; }", 1},
		{"func main() { let x = true || false; }", 0},
		{"var g; func main() { while g < 1 { g = g + 1; if g == 0 { g = 2; } } return g; }", 0},
	} {
		if got := params(built(t, parsed(t, c.text))); got != c.want {
			t.Errorf("%s: %d parameters, want %d", c.text, got, c.want)
		}
	}
}

// lists finds each list, wherever it is nested.
func lists(v reflect.Value, tell func(reflect.Value)) {
	switch v.Kind() {
	case reflect.Slice:
		tell(v)
		for i := range v.Len() {
			lists(v.Index(i), tell)
		}
	case reflect.Struct:
		for i := range v.NumField() {
			lists(v.Field(i), tell)
		}
	}
}

// No two lists of blocks share any memory, and what is added to one, is nowhere else.
func TestNothingIsShared(t *testing.T) {
	var some []ast.Prog
	for _, s := range shapes {
		some = append(some, parsed(t, s))
	}
	for seed := range int64(100) {
		p, _ := made(seed)
		some = append(some, p)
	}
	for _, p := range some {
		q := built(t, p)
		met := map[uintptr]bool{}
		lists(reflect.ValueOf(q), func(v reflect.Value) {
			for i := range v.Cap() {
				at := v.Slice(0, v.Cap()).Index(i).Addr().Pointer()
				if size := v.Type().Elem().Size(); met[at] || size == 0 {
					t.Error(p.Text(), "shares a list", v)
				}
				met[at] = true
			}
		})
		if len(met) < 4 {
			t.Error(p.Text(), "has few lists", len(met))
		}
	}
}

func TestWhatIsHandedInStays(t *testing.T) {
	for seed := range int64(200) {
		p, _ := made(seed)
		before := fmt.Sprintf("%#v", p)
		q := built(t, p)
		if fmt.Sprintf("%#v", p) != before {
			t.Fatal("seed", seed, "was changed")
		}
		if !reflect.DeepEqual(built(t, p), q) {
			t.Fatal("seed", seed, "is built otherwise")
		}
	}
}
