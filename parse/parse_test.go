package parse_test

import (
	"fmt"
	"math"
	"strings"
	"testing"

	"palings/api"
	"palings/ast"
	"palings/lex"
	"palings/parse"
	"palings/word"
)

func pos(line, col int) api.Pos { return api.Pos{Line: line, Col: col} }

// place is where byte i of a text stands.
func place(s string, i int) api.Pos {
	return pos(1+strings.Count(s[:i], "\n"), i-strings.LastIndex(s[:i], "\n"))
}

// brief is a text as a test shows it.
func brief(s string) string {
	if len(s) > 90 {
		return s[:90] + ".."
	}
	return s
}

func program(t *testing.T, s string) ast.Prog {
	t.Helper()
	p, f := parse.Program(s)
	if f != (lex.Fault{}) {
		t.Fatalf("%q: fault %v", brief(s), f)
	}
	return p
}

func wantFault(t *testing.T, s string, e api.Errno, at api.Pos) {
	t.Helper()
	p, f := parse.Program(s)
	if f.E != e || f.At != at {
		t.Errorf("%q: fault %v, not %d at %v", brief(s), f, e, at)
	}
	if p.Globals != nil || p.Funcs != nil {
		t.Errorf("%q: a program beside a fault", brief(s))
	}
}

// wantMarked takes a text with a ~ ahead of the place of its fault.
func wantMarked(t *testing.T, e api.Errno, marked string) {
	t.Helper()
	i := strings.Index(marked, "~")
	if i < 0 {
		t.Fatalf("%q: no place is marked", marked)
	}
	s := marked[:i] + marked[i+1:]
	wantFault(t, s, e, place(s, i))
}

// shown is an expression with the columns of its parts.
func shown(e ast.Expr) string {
	text := ""
	switch e.Kind {
	case ast.Num:
		text = fmt.Sprint(e.Num)
	case ast.Truth:
		text = fmt.Sprint("truth", e.Num)
	case ast.Var:
		text = e.Name
	case ast.Index:
		text = e.Name + "[]"
	case ast.Call:
		text = e.Name + "()"
	case ast.Both:
		text = e.Op.String()
	default:
		text = [...]string{"And", "Or", "Not"}[e.Kind-ast.And]
	}
	text += fmt.Sprint("@", e.At.Col)
	if len(e.Kids) == 0 {
		return text
	}
	for _, k := range e.Kids {
		text += " " + shown(k)
	}
	return "(" + text + ")"
}

func TestExpressions(t *testing.T) {
	for s, want := range map[string]string{
		"1":                        "1@1",
		"9223372036854775807":      "9223372036854775807@1",
		"  a":                      "a@3",
		"true":                     "truth1@1",
		"false":                    "truth0@1",
		"(a)":                      "a@2",
		"((1))":                    "1@3",
		"a[b]":                     "(a[]@1 b@3)",
		"a[b[1]]":                  "(a[]@1 (b[]@3 1@5))",
		"f()":                      "f()@1",
		"f(a)":                     "(f()@1 a@3)",
		"f(a, (b), g())":           "(f()@1 a@3 b@7 g()@11)",
		"!a":                       "(Not@1 a@2)",
		"! !a":                     "(Not@1 (Not@3 a@4))",
		"-a":                       "(sub@1 0@1 a@2)",
		"- -a":                     "(sub@1 0@1 (sub@3 0@3 a@4))",
		"-5":                       "(sub@1 0@1 5@2)",
		"!-a":                      "(Not@1 (sub@2 0@2 a@3))",
		"-a*b":                     "(mul@3 (sub@1 0@1 a@2) b@4)",
		"a--b":                     "(sub@2 a@1 (sub@3 0@3 b@4))",
		"!a == b":                  "(eq@4 (Not@1 a@2) b@7)",
		"-(a + b)":                 "(sub@1 0@1 (add@5 a@3 b@7))",
		"(a + b)":                  "(add@4 a@2 b@6)",
		"1 + 2 * 3":                "(add@3 1@1 (mul@7 2@5 3@9))",
		"1 * 2 + 3":                "(add@7 (mul@3 1@1 2@5) 3@9)",
		"(1 + 2) * 3":              "(mul@9 (add@4 1@2 2@6) 3@11)",
		"a - b - c":                "(sub@7 (sub@3 a@1 b@5) c@9)",
		"a - (b - c)":              "(sub@3 a@1 (sub@8 b@6 c@10))",
		"a + b - c | d ^ e":        "(xor@15 (or@11 (sub@7 (add@3 a@1 b@5) c@9) d@13) e@17)",
		"a * b / c % d & e":        "(and@15 (mod@11 (div@7 (mul@3 a@1 b@5) c@9) d@13) e@17)",
		"a << b >> c":              "(shr@8 (shl@3 a@1 b@6) c@11)",
		"a | b & c":                "(or@3 a@1 (and@7 b@5 c@9))",
		"a ^ b << c":               "(xor@3 a@1 (shl@7 b@5 c@10))",
		"a == b":                   "(eq@3 a@1 b@6)",
		"a != b":                   "(ne@3 a@1 b@6)",
		"a < b":                    "(lt@3 a@1 b@5)",
		"a <= b":                   "(le@3 a@1 b@6)",
		"a > b":                    "(lt@3 b@5 a@1)",
		"a >= b":                   "(le@3 b@6 a@1)",
		"a + 1 > b * 2":            "(lt@7 (mul@11 b@9 2@13) (add@3 a@1 1@5))",
		"a | b == c":               "(eq@7 (or@3 a@1 b@5) c@10)",
		"(a < b) < c":              "(lt@9 (lt@4 a@2 b@6) c@11)",
		"a && b":                   "(And@3 a@1 b@6)",
		"a || b":                   "(Or@3 a@1 b@6)",
		"a && b && c":              "(And@8 (And@3 a@1 b@6) c@11)",
		"a || b || c":              "(Or@8 (Or@3 a@1 b@6) c@11)",
		"a || b && c":              "(Or@3 a@1 (And@8 b@6 c@11))",
		"a && b || c":              "(Or@8 (And@3 a@1 b@6) c@11)",
		"a && (b || c)":            "(And@3 a@1 (Or@9 b@7 c@12))",
		"a < b && c == d":          "(And@7 (lt@3 a@1 b@5) (eq@12 c@10 d@15))",
		"f(-1)[2]":                 "", // what a call answers has no words
		"f(a > b || !c, d[1 - 2])": "(f()@1 (Or@9 (lt@5 b@7 a@3) (Not@12 c@13)) (d[]@16 (sub@20 1@18 2@22)))",
	} {
		text := "func f() { return\n" + s + "\n; }"
		if want == "" {
			if _, f := parse.Program(text); f.E != api.ErrToken {
				t.Errorf("%s: fault %v", s, f)
			}
			continue
		}
		e := program(t, text).Funcs[0].Body[0].E[0]
		if got := shown(e); got != want {
			t.Errorf("%s: %s, not %s", s, got, want)
		}
		if e.At.Line != 2 {
			t.Errorf("%s: line %d", s, e.At.Line)
		}
	}
}

// TestWholeExpressions holds all fields against what they should be: those without a meaning are zero.
func TestWholeExpressions(t *testing.T) {
	zero, a := ast.Expr{Kind: ast.Num, At: pos(2, 1)}, ast.Expr{Kind: ast.Var, At: pos(2, 2), Name: "a"}
	for s, want := range map[string]ast.Expr{
		"-a":    {Kind: ast.Both, At: pos(2, 1), Op: word.Sub, Kids: []ast.Expr{zero, a}},
		"!a":    {Kind: ast.Not, At: pos(2, 1), Kids: []ast.Expr{a}},
		"7":     {Kind: ast.Num, At: pos(2, 1), Num: 7},
		"true":  {Kind: ast.Truth, At: pos(2, 1), Num: 1},
		"false": {Kind: ast.Truth, At: pos(2, 1)},
		"(a)":   a,
		"f(7)":  {Kind: ast.Call, At: pos(2, 1), Name: "f", Kids: []ast.Expr{{Kind: ast.Num, At: pos(2, 3), Num: 7}}},
		"f[7]":  {Kind: ast.Index, At: pos(2, 1), Name: "f", Kids: []ast.Expr{{Kind: ast.Num, At: pos(2, 3), Num: 7}}},
		" a&&a": {Kind: ast.And, At: pos(2, 3), Kids: []ast.Expr{a, {Kind: ast.Var, At: pos(2, 5), Name: "a"}}},
		" a||a": {Kind: ast.Or, At: pos(2, 3), Kids: []ast.Expr{a, {Kind: ast.Var, At: pos(2, 5), Name: "a"}}},
		" a>=7": {Kind: ast.Both, At: pos(2, 3), Op: word.Le, Kids: []ast.Expr{{Kind: ast.Num, At: pos(2, 5), Num: 7}, a}},
	} {
		e := program(t, "func f() { return\n"+s+"; }").Funcs[0].Body[0].E[0]
		if fmt.Sprint(e) != fmt.Sprint(want) {
			t.Errorf("%s: %v, not %v", s, e, want)
		}
	}
}

func TestStatements(t *testing.T) {
	call := func(col int) ast.Expr { return ast.Expr{Kind: ast.Call, At: pos(2, col), Name: "f"} }
	name := func(s string, col int) ast.Expr { return ast.Expr{Kind: ast.Var, At: pos(2, col), Name: s} }
	run := func(col int) ast.Stmt {
		return ast.Stmt{Does: ast.Run, At: pos(2, col), E: []ast.Expr{call(col)}}
	}
	for s, want := range map[string]ast.Stmt{
		"let x = a;":          {Does: ast.Let, At: pos(2, 1), Name: "x", E: []ast.Expr{name("a", 9)}},
		" x = a;":             {Does: ast.Set, At: pos(2, 2), Name: "x", E: []ast.Expr{name("a", 6)}},
		"((x)) = a;":          {Does: ast.Set, At: pos(2, 1), Name: "x", E: []ast.Expr{name("a", 9)}},
		"x[i] = a;":           {Does: ast.Put, At: pos(2, 1), Name: "x", E: []ast.Expr{name("i", 3), name("a", 8)}},
		"(x[i]) = a;":         {Does: ast.Put, At: pos(2, 1), Name: "x", E: []ast.Expr{name("i", 4), name("a", 10)}},
		"return a;":           {Does: ast.Return, At: pos(2, 1), E: []ast.Expr{name("a", 8)}},
		"f();":                run(1),
		"(f());":              {Does: ast.Run, At: pos(2, 1), E: []ast.Expr{call(2)}},
		"while a {}":          {Does: ast.While, At: pos(2, 1), E: []ast.Expr{name("a", 7)}},
		"while a { f();f();}": {Does: ast.While, At: pos(2, 1), E: []ast.Expr{name("a", 7)}, Then: []ast.Stmt{run(11), run(15)}},
		"if a {}":             {Does: ast.If, At: pos(2, 1), E: []ast.Expr{name("a", 4)}},
		"if a { f(); }":       {Does: ast.If, At: pos(2, 1), E: []ast.Expr{name("a", 4)}, Then: []ast.Stmt{run(8)}},
		"if a {} else {}":     {Does: ast.If, At: pos(2, 1), E: []ast.Expr{name("a", 4)}},
		"if a {} else {f();}": {Does: ast.If, At: pos(2, 1), E: []ast.Expr{name("a", 4)}, Else: []ast.Stmt{run(15)}},
		"if a {} else if b {f();}": {Does: ast.If, At: pos(2, 1), E: []ast.Expr{name("a", 4)}, Else: []ast.Stmt{
			{Does: ast.If, At: pos(2, 14), E: []ast.Expr{name("b", 17)}, Then: []ast.Stmt{run(20)}},
		}},
		"if a {} else if b {} else if c {} else {f();}": {Does: ast.If, At: pos(2, 1), E: []ast.Expr{name("a", 4)}, Else: []ast.Stmt{
			{Does: ast.If, At: pos(2, 14), E: []ast.Expr{name("b", 17)}, Else: []ast.Stmt{
				{Does: ast.If, At: pos(2, 27), E: []ast.Expr{name("c", 30)}, Else: []ast.Stmt{run(41)}},
			}},
		}},
	} {
		body := program(t, "func f() {\n"+s+"\nreturn 1; }").Funcs[0].Body
		if len(body) != 2 || fmt.Sprint(body[0]) != fmt.Sprint(want) || body[1].At != pos(3, 1) {
			t.Errorf("%s: %v, not %v", s, body, want)
		}
	}
}

func TestGlobalsAndFunctions(t *testing.T) {
	p := program(t, "var a;func f(){}\n  public  b [ 1 ] ;secret c[4096];func main ( x , y ) { return x; }\nvar d[0007];func g(x,y,z,a,b,c,d){}")
	globals := []ast.Global{
		{Name: "a", Hold: ast.Own, At: pos(1, 5)},
		{Name: "b", Hold: ast.Open, Size: 1, At: pos(2, 11)},
		{Name: "c", Hold: ast.Closed, Size: 4096, At: pos(2, 27)},
		{Name: "d", Hold: ast.Own, Size: 7, At: pos(3, 5)},
	}
	if fmt.Sprint(p.Globals) != fmt.Sprint(globals) {
		t.Error(p.Globals)
	}
	x := ast.Expr{Kind: ast.Var, At: pos(2, 64), Name: "x"}
	funcs := []ast.Func{
		{Name: "f", At: pos(1, 12)},
		{Name: "main", Params: []string{"x", "y"}, Body: []ast.Stmt{{Does: ast.Return, At: pos(2, 57), E: []ast.Expr{x}}}, At: pos(2, 40)},
		{Name: "g", Params: strings.Split("x,y,z,a,b,c,d", ","), At: pos(3, 18)},
	}
	if fmt.Sprint(p.Funcs) != fmt.Sprint(funcs) {
		t.Error(p.Funcs)
	}
	for _, s := range []string{"", " \n", "// nothing"} {
		if p := program(t, s); len(p.Globals) > 0 || len(p.Funcs) > 0 {
			t.Errorf("%q: %v", s, p)
		}
	}
}

func TestFirstWrongToken(t *testing.T) {
	for _, s := range []string{
		"~x", "~;", "~1", "~let a = 1;", "~{ }", "~if a { }", "var a; ~; func f() { }", "func f() { } ~}",
		"var ~", "var ~;", "var ~1;", "var ~if;", "var ~var a;", "var a~", "var a ~b;", "var a~, b;", "var a ~= 1;", "var a~(1);",
		"var a[~];", "var a[~x];", "var a[~-1];", "var a[1~", "var a[1~;", "var a[1 ~+ 1];", "var a[1]~", "var a[1] ~[2];", "public ~secret a;",
		"func ~", "func ~()", "func ~if() { }", "func f~", "func f ~{ }", "func f(~", "func f(~1) { }", "func f(~,) { }", "func f(a~", "func f(a ~b) { }",
		"func f(a,~) { }", "func f(a, ~true) { }", "func f(a~; b) { }", "func f()~", "func f()~;", "func f() ~return 1;", "func f() {~", "func f() { ~func g() { } }",
		"func f() { ~var a; }", "func f() { ~; }", "func f() { ~{ } }", "func f() { ~else { } }", "func f() { ~= 1; }", "func f() { ~) }",
		"func f() { let ~= 1; }", "func f() { let ~1 = 1; }", "func f() { let a~; }", "func f() { let a ~== 1; }", "func f() { let a = ~; }", "func f() { let a = 1 ~}", "func f() { let a~[1] = 1; }",
		"func f() { return~; }", "func f() { return 1 ~}", "func f() { return 1 ~2; }", "func f() { return a ~= 1; }", "func f() { return ~let; }",
		"func f() { while ~{ } }", "func f() { while a~; }", "func f() { while a { ~", "func f() { while a { } ~else { } }", "func f() { while (a ~{ } }",
		"func f() { if ~{ } }", "func f() { if a~; }", "func f() { if a { } else~; }", "func f() { if a { } else ~b; }", "func f() { if a { } else ~while b { } }", "func f() { if a { } else { } ~else { } }", "func f() { if a { } else if ~{ } }", "func f() { if a { } else ~", "func f() { if a ~if b { } }",
		"func f() { return 1 < 2 ~< 3; }", "func f() { return a == b ~!= c; }", "func f() { return a > b ~>= c; }", "func f() { return a <= b ~== c && d; }", "func f() { return !a == b ~== c; }",
		"func f() { return ~+", "func f() { return ~+1; }", "func f() { return 1 + ~; }", "func f() { return 1 + ~* 2; }", "func f() { return a && ~|| b; }", "func f() { return a < ~; }", "func f() { return !~; }", "func f() { return -~; }", "func f() { return - ~+ 1; }", "func f() { return a ~! b; }", "func f() { return ~=; }",
		"func f() { return (~); }", "func f() { return (a~; }", "func f() { return (a ~b); }", "func f() { return (a~, b); }", "func f() { return (a)~) ; }", "func f() { return (a) ~b; }", "func f() { return (a)~(b); }",
		"func f() { return a[~]; }", "func f() { return a[1~; }", "func f() { return a[1~, 2]; }", "func f() { return a[1]~[2]; }", "func f() { return 1~[2]; }", "func f() { return a~{ }; }",
		"func f() { return g(~; }", "func f() { return g(a~; }", "func f() { return g(a,~); }", "func f() { return g(~,a); }", "func f() { return g(a ~b); }", "func f() { return g()~(); }", "func f() { return 1~(2); }", "func f() { return true~(2); }",
		"func f() { 5~; }", "func f() { a~; }", "func f() { a[1]~; }", "func f() { f() + 1~; }", "func f() { !f()~; }", "func f() { -f()~; }", "func f() { true~; }", "func f() { (a)~; }", "func f() { f() && g()~; }",
		"func f() { 5 ~= 1; }", "func f() { f() ~= 1; }", "func f() { a + b ~= 1; }", "func f() { !a ~= 1; }", "func f() { -a ~= 1; }", "func f() { true ~= 1; }", "func f() { (a + 1) ~= 1; }", "func f() { a < b ~= 1; }",
		"func f() { a = b ~= 1; }", "func f() { a = ~; }", "func f() { a = 1 ~}", "func f() { a[1] = ~; }", "func f() { a[1] = 2 ~}", "func f() { a ~b; }", "func f() { f() ~}", "func f() { f() ~g(); }", "func f() { 5 ~6; }", "func f() { a == 1 ~= 2; }",
	} {
		wantMarked(t, api.ErrToken, s)
	}
	wantMarked(t, api.ErrToken, "var a;\nfunc f() {\n\treturn 1 ~2;\n}")
}

func TestEndsTooEarly(t *testing.T) {
	s := "var a ; public b [ 3 ] ; func f ( x , y ) { let z = - x + a [ ( 1 ) ] * f ( 2 , ! true ) ; if x < y { } else if x { z = 1 ; } else { a [ 0 ] = 2 ; } while z != 0 && x || y { f ( ) ; } return z ; } secret c ;"
	pieces := strings.Fields(s)
	whole := map[int]bool{0: true, 3: true, 9: true, len(pieces) - 3: true, len(pieces): true}
	for n := range len(pieces) + 1 {
		text := strings.Join(pieces[:n], " ")
		if whole[n] {
			program(t, text)
			continue
		}
		wantFault(t, text, api.ErrToken, pos(1, len(text)+1))
		wantFault(t, text+" \n // a remark\n ", api.ErrToken, pos(3, 2))
	}
}

func TestSizes(t *testing.T) {
	for s, want := range map[string]int{"var a;": 0, "var a[1];": 1, "var a[2];": 2, "var a[4095];": 4095, "var a[4096];": 4096, "var a[004096];": 4096} {
		if got := program(t, s).Globals[0].Size; got != want {
			t.Errorf("%s: %d", s, got)
		}
	}
	for _, s := range []string{"var a[~0];", "var a[~00];", "var a[~4097];", "public b;\nsecret a[ ~4097 ];", "public a[~9223372036854775807];", "secret a[1]; secret b[~5000]; var c[0];", "var a[~4294967297];", "var a[~0", "var a[~0;"} {
		wantMarked(t, api.ErrSize, s)
	}
	// it is a global one's alone
	program(t, "func f() { return a[0] + a[4097]; }")
	// and what is no number isn't of a wrong size
	wantMarked(t, api.ErrToken, "var a[~b];")
	// the first fault of the text is told
	wantMarked(t, api.ErrToken, "var ~; var a[0];")
	wantMarked(t, api.ErrSize, "var a[~0]; var ;")
}

func TestErrorsOfLayerTwo(t *testing.T) {
	wantMarked(t, api.ErrSign, "~@")
	wantMarked(t, api.ErrSign, "func f() { return ~$; }")
	wantMarked(t, api.ErrSign, "; ; var a[0];\n ~#") // ahead of what may not stand there
	wantMarked(t, api.ErrNumber, "func f() { return ~9223372036854775808; }")
	wantMarked(t, api.ErrNumber, "var a[~9223372036854775808];")
	long := strings.Repeat(" ", api.MaxText)
	program(t, long)
	wantFault(t, long+" ", api.ErrLong, pos(1, 1))
	wantFault(t, "@"+long, api.ErrLong, pos(1, 1))
}

func TestNumbers(t *testing.T) {
	e := program(t, "func f() { return 9223372036854775807; }").Funcs[0].Body[0].E[0]
	if e.Num != math.MaxInt64 {
		t.Error(e.Num)
	}
}

func TestAnswersAreNew(t *testing.T) {
	const s = "var a; func f(x, y) { if x { a = f(x, y); } else { f(1, 2); } }"
	p, want := program(t, s), fmt.Sprint(program(t, s))
	q := program(t, s)
	q.Globals[0].Name = "z"
	q.Funcs[0].Params[1] = "z"
	q.Funcs[0].Body[0].Then[0].E[0].Kids[0].Name = "z"
	q.Funcs[0].Body[0].Else[0].E[0].Kids = append(q.Funcs[0].Body[0].Else[0].E[0].Kids[:1], ast.Expr{})
	if fmt.Sprint(p) != want {
		t.Error("two answers share memory")
	}
}
