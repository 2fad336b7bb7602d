package check_test

import (
	"math"
	"reflect"
	"strconv"
	"testing"

	"palings/api"
	"palings/ast"
	"palings/check"
)

func TestTypes(t *testing.T) {
	if check.None != 0 || check.Int != 1 || check.Bool != 2 {
		t.Error(check.None, check.Int, check.Bool)
	}
}

var first = api.Pos{Line: 1, Col: 1}

func globalOf(size int, hold ast.Hold) ast.Prog {
	p := around()
	p.Globals = append(p.Globals, ast.Global{Name: "last", Size: size, Hold: hold, At: place(5)})
	return p
}

func TestSizeAndHoldOfGlobals(t *testing.T) {
	for _, size := range []int{0, 1, 2, 4095, 4096} {
		tryTree(t, strconv.Itoa(size), globalOf(size, ast.Open), api.OK, api.Pos{})
	}
	for _, size := range []int{-1, -4096, math.MinInt, 4097, 8192, math.MaxInt} {
		tryTree(t, strconv.Itoa(size), globalOf(size, ast.Open), api.ErrBad, place(5))
	}
	for _, hold := range []ast.Hold{ast.Own, ast.Open, ast.Closed} {
		tryTree(t, strconv.Itoa(int(hold)), globalOf(0, hold), api.OK, api.Pos{})
	}
	for _, hold := range []ast.Hold{-1, 3, 4, math.MinInt, math.MaxInt} {
		tryTree(t, strconv.Itoa(int(hold)), globalOf(0, hold), api.ErrBad, place(5))
	}
}

func TestWrongGlobalsAreToldAheadOfAll(t *testing.T) {
	p := globalOf(4097, ast.Own)
	p.Globals = append([]ast.Global{{Name: "last", Size: 2, At: place(4)}}, p.Globals...)
	p.Globals = append(p.Globals, ast.Global{Name: "w", Size: -1, At: place(6)})
	p.Funcs = nil
	tryTree(t, "the first wrong one", p, api.ErrBad, place(5))
	p.Globals[3].Size = 0
	tryTree(t, "the other wrong one", p, api.ErrBad, place(6))
	p.Globals[4].Size = 0
	tryTree(t, "the first twice", p, api.ErrTwice, place(5))
}

// manyGlobals is a program of n globals, the k-th of them at place k, with main at 1000.
func manyGlobals(n int) ast.Prog {
	p := ast.Prog{Funcs: []ast.Func{{Name: "main", At: place(1000)}}}
	for i := range n {
		p.Globals = append(p.Globals, ast.Global{Name: "g" + strconv.Itoa(i), Size: i % 3, Hold: ast.Hold(i % 3), At: place(i)})
	}
	return p
}

func TestManyGlobals(t *testing.T) {
	tryTree(t, "63", manyGlobals(63), api.OK, api.Pos{})
	tryTree(t, "64", manyGlobals(64), api.OK, api.Pos{})
	tryTree(t, "65", manyGlobals(65), api.ErrMany, place(64))
	tryTree(t, "200", manyGlobals(200), api.ErrMany, place(64))

	p := manyGlobals(66)
	p.Globals[64].Name = "g3"
	tryTree(t, "the 65th is there already", p, api.ErrTwice, place(64))
	p = manyGlobals(66)
	p.Globals[65].Name = "g3"
	tryTree(t, "the 66th is there already", p, api.ErrMany, place(64))
	p = manyGlobals(65)
	p.Globals[63].Name = "g62"
	tryTree(t, "the 64th is there already", p, api.ErrTwice, place(63))
	p = manyGlobals(65)
	p.Funcs = append(p.Funcs, p.Funcs[0])
	tryTree(t, "a function twice, too", p, api.ErrMany, place(64))
}

// manyFuncs is a program of n functions and the global g, the k-th function at place k; the last one is main.
func manyFuncs(n int) ast.Prog {
	p := ast.Prog{Globals: []ast.Global{{Name: "g", At: place(1000)}}}
	for i := range n - 1 {
		p.Funcs = append(p.Funcs, ast.Func{Name: "f" + strconv.Itoa(i), At: place(i)})
	}
	p.Funcs = append(p.Funcs, ast.Func{Name: "main", At: place(n - 1)})
	return p
}

func TestManyFunctions(t *testing.T) {
	tryTree(t, "1", manyFuncs(1), api.OK, api.Pos{})
	tryTree(t, "256", manyFuncs(256), api.OK, api.Pos{})
	tryTree(t, "257", manyFuncs(257), api.ErrMany, place(256))
	tryTree(t, "500", manyFuncs(500), api.ErrMany, place(256))

	for _, name := range []string{"f3", "g"} {
		p := manyFuncs(258)
		p.Funcs[256].Name = name
		tryTree(t, "the 257th is there already", p, api.ErrTwice, place(256))
		p = manyFuncs(258)
		p.Funcs[257].Name = name
		tryTree(t, "the 258th is there already", p, api.ErrMany, place(256))
	}
}

func params(n int) []string {
	var out []string
	for i := range n {
		out = append(out, "p"+strconv.Itoa(i))
	}
	return out
}

func TestManyParams(t *testing.T) {
	for n := range 10 {
		p := manyFuncs(4)
		p.Funcs[1].Params = params(n)
		p.Funcs[2].Params = params(n)
		if n <= 6 {
			tryTree(t, strconv.Itoa(n), p, api.OK, api.Pos{})
		} else {
			tryTree(t, strconv.Itoa(n), p, api.ErrMany, place(1))
		}
	}
	p := manyFuncs(4)
	p.Funcs[2].Params = params(7)
	p.Funcs[2].Name = "f0"
	tryTree(t, "seven, and twice", p, api.ErrTwice, place(2))
	p.Funcs[2].Name = "f2"
	p.Funcs[2].Params[6] = "p0"
	tryTree(t, "seven, one twice", p, api.ErrMany, place(2))
	p.Funcs[0].Params = []string{"p", "p"}
	tryTree(t, "seven, and a param twice ahead", p, api.ErrMany, place(2))
	p.Funcs[3].Params = params(7)
	p.Funcs[2].Params = nil
	tryTree(t, "seven of main", p, api.ErrMany, place(3))
}

func TestNamesOfTheProgram(t *testing.T) {
	for _, c := range []tell{
		{"var a; var @a; func main() { }", api.ErrTwice},
		{"public a; secret b; var c[2]; secret @b[3]; func main() { }", api.ErrTwice},
		{"var a; var @a; var a; func main() { }", api.ErrTwice},
		{"var a; func main() { } func @a() { }", api.ErrTwice},
		{"func @a() { } func main() { } var a[2];", api.ErrTwice},
		{"func a() { } func @a() { } func main() { }", api.ErrTwice},
		{"func main() { }\n\n func\n @main() { }", api.ErrTwice},
		{"func @main() { } var main;", api.ErrTwice},
		{"var a; func a() { return x; } var b; var @b; func main() { }", api.ErrTwice},
		{"var a; var A; func b() { } func B() { } func main() { }", api.OK},
	} {
		c.try(t)
	}
}

func TestNamesOfParams(t *testing.T) {
	for _, c := range []tell{
		{"func f(a, b, c) { } func main() { }", api.OK},
		{"func f(a, b) { } func g(a, b) { } func main() { }", api.OK},
		{"func f(a) { let b = 1; } func main() { let a = 2; let b = 3; }", api.OK},
		{"func @f(a, a) { } func main() { }", api.ErrTwice},
		{"func @f(a, b, a) { } func main() { }", api.ErrTwice},
		{"func @f(a, w) { } var w; func main() { }", api.ErrTwice},
		{"func @f(h) { } var h[2]; func main() { }", api.ErrTwice},
		{"func @f(f) { } func main() { }", api.ErrTwice},
		{"func g() { } func @f(g) { } func main() { }", api.ErrTwice},
		{"func @f(g) { } func g() { } func main() { }", api.ErrTwice},
		{"func @f(main) { } func main() { }", api.ErrTwice},
		{"func f() { return @a; } func g(a) { } func main() { }", api.ErrName},
		{"func f(a) { } func main() { return @a; }", api.ErrName},
	} {
		c.try(t)
	}
}

func TestMainIsThere(t *testing.T) {
	for _, c := range []tell{
		{"@", api.ErrMain},
		{"@var main;", api.ErrMain},
		{"@func Main() { } func mai() { } func main1() { }", api.ErrMain},
		{"@func f() { } var a;", api.ErrMain},
		{"@\n\nfunc main(a) { return a; }", api.ErrMain},
		{"@func f() { } func main(a, b, c, d, e, g) { }", api.ErrMain},
		{"func f() { return @x; }", api.ErrName},
		{"func main(a) { return @x; }", api.ErrName},
		{"func main(a) { } func f() { return @true; }", api.ErrType},
		{"var a; func f() { } func @f() { }", api.ErrTwice},
		{"func main() { }", api.OK},
		{"func main() { } func f() { } var a;", api.OK},
	} {
		c.try(t)
	}
	tryTree(t, "none", ast.Prog{}, api.ErrMain, first)
	tryTree(t, "a wrong global", ast.Prog{Globals: []ast.Global{{Size: -1}}}, api.ErrBad, api.Pos{})
}

// Each fault of spoils is told ahead of those behind it, wherever it stands.
var spoils = []struct {
	what string
	do   func(p *ast.Prog)
	want api.Errno
	at   api.Pos
}{
	{"a wrong global", func(p *ast.Prog) { p.Globals[3].Hold = 3 }, api.ErrBad, place(13)},
	{"a global twice", func(p *ast.Prog) { p.Globals[2].Name = "g0" }, api.ErrTwice, place(12)},
	{"65 globals", func(p *ast.Prog) { p.Globals = append(p.Globals, manyGlobals(70).Globals[4:]...) }, api.ErrMany, place(64)},
	{"a function twice", func(p *ast.Prog) { p.Funcs[2].Name = "zero" }, api.ErrTwice, place(22)},
	{"a function with a global's name", func(p *ast.Prog) { p.Funcs[3].Name = "g1" }, api.ErrTwice, place(23)},
	{"seven params", func(p *ast.Prog) { p.Funcs[4].Params = params(7) }, api.ErrMany, place(24)},
	{"a param twice in the first", func(p *ast.Prog) { p.Funcs[0].Params = []string{"x", "g0"} }, api.ErrTwice, place(20)},
	{"a statement in the first", func(p *ast.Prog) { p.Funcs[0].Body = wrongBody(30) }, api.ErrBad, place(30)},
	{"a param twice in the next", func(p *ast.Prog) { p.Funcs[1].Params = []string{"x", "x"} }, api.ErrTwice, place(21)},
	{"a statement in the next", func(p *ast.Prog) { p.Funcs[1].Body = wrongBody(31) }, api.ErrBad, place(31)},
	{"no main", func(p *ast.Prog) { p.Funcs[5].Name = "men" }, api.ErrMain, first},
}

func wrongBody(n int) []ast.Stmt {
	return []ast.Stmt{{Does: ast.Return, At: place(n)}}
}

func sixFuncs() ast.Prog {
	p := ast.Prog{}
	for i := range 4 {
		p.Globals = append(p.Globals, ast.Global{Name: "g" + strconv.Itoa(i), At: place(10 + i)})
	}
	for i, name := range []string{"zero", "one", "two", "three", "four", "main"} {
		p.Funcs = append(p.Funcs, ast.Func{Name: name, At: place(20 + i)})
	}
	return p
}

func TestOrderOfErrors(t *testing.T) {
	tryTree(t, "none", sixFuncs(), api.OK, api.Pos{})
	for i, a := range spoils {
		for _, b := range spoils[i:] {
			p := sixFuncs()
			a.do(&p)
			b.do(&p)
			tryTree(t, a.what+", "+b.what, p, a.want, a.at)
			p = sixFuncs()
			for _, c := range spoils[i:] {
				c.do(&p)
			}
			tryTree(t, a.what+", and all behind it", p, a.want, a.at)
		}
	}
}

func TestInfo(t *testing.T) {
	for s, want := range map[string]check.Info{
		"func main() { }": {Funcs: map[string]int{"main": 0}},
		"var a; func f(x) { let y = x; } public b[4]; func main() { } secret c;": {
			Globals: map[string]int{"a": 0, "b": 1, "c": 2},
			Funcs:   map[string]int{"f": 0, "main": 1},
		},
	} {
		p, got, fault := check.Text(s)
		if fault.E != api.OK || fault.At != (api.Pos{}) {
			t.Error(s, fault)
		}
		if len(got.Globals)+len(want.Globals) > 0 && !reflect.DeepEqual(got.Globals, want.Globals) {
			t.Error(s, got.Globals)
		}
		if !reflect.DeepEqual(got.Funcs, want.Funcs) {
			t.Error(s, got.Funcs)
		}
		again, _ := check.Program(p)
		clear(got.Globals)
		clear(got.Funcs)
		if other, _ := check.Program(p); !reflect.DeepEqual(again, other) {
			t.Error(s, "kept what it answered")
		}
	}
}

func TestInfoOfAsManyAsThereMayBe(t *testing.T) {
	p := manyFuncs(256)
	p.Globals = manyGlobals(64).Globals
	info, fault := check.Program(p)
	if fault.E != api.OK || len(info.Globals) != 64 || len(info.Funcs) != 256 {
		t.Fatal(fault, len(info.Globals), len(info.Funcs))
	}
	for i, g := range p.Globals {
		if at, ok := info.Globals[g.Name]; !ok || at != i {
			t.Error(g.Name, at, ok)
		}
	}
	for i, f := range p.Funcs {
		if at, ok := info.Funcs[f.Name]; !ok || at != i {
			t.Error(f.Name, at, ok)
		}
	}
}
