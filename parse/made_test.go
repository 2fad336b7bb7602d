package parse_test

import (
	"fmt"
	"math/rand"
	"strings"
	"testing"

	"palings/api"
	"palings/ast"
	"palings/parse"
	"palings/word"
)

// maker writes a text rule by rule, with any blanks between the tokens, and makes the tree that the rules say, with its places.
type maker struct {
	*rand.Rand
	b    []byte
	text []string // the tokens
	last api.Pos  // the place behind all of them
	left int      // how many more parts may be nested
}

var spaces = []string{" ", " ", "\t", "\n", "\r\n", "  ", " // a remark ( ; @\n"}

func made(seed int64) (*maker, ast.Prog) {
	m := &maker{Rand: rand.New(rand.NewSource(seed)), last: pos(1, 1), left: 4}
	var p ast.Prog
	for range 1 + m.Intn(4) {
		if m.Intn(2) == 0 {
			p.Globals = append(p.Globals, m.global())
		} else {
			p.Funcs = append(p.Funcs, m.function())
		}
	}
	return m, p
}

// write lays a token behind the others, and tells its place.
func (m *maker) write(token string) api.Pos {
	const alone = "(){}[],;" // what makes no other token with anything
	apart := len(m.b) == 0 || strings.Contains(alone, token[:1]) || strings.Contains(alone, string(m.b[len(m.b)-1]))
	if !apart || m.Intn(2) == 0 {
		m.lay(spaces[m.Intn(len(spaces))])
	}
	at := m.last
	m.lay(token)
	m.text = append(m.text, token)
	return at
}

func (m *maker) lay(s string) {
	m.b = append(m.b, s...)
	m.last.Col += len(s)
	if i := strings.LastIndex(s, "\n"); i >= 0 {
		m.last = pos(m.last.Line+strings.Count(s, "\n"), len(s)-i)
	}
}

func (m *maker) name() (string, api.Pos) {
	s := []string{"a", "b", "c", "if_", "_", "x1", "Main"}[m.Intn(7)]
	return s, m.write(s)
}

func (m *maker) global() ast.Global {
	h := ast.Hold(m.Intn(3))
	m.write([]string{"var", "public", "secret"}[h])
	name, at := m.name()
	g := ast.Global{Name: name, Hold: h, At: at}
	if m.Intn(2) == 0 {
		g.Size = 1 + m.Intn(api.MaxArray)
		m.write("[")
		m.write(fmt.Sprint(g.Size))
		m.write("]")
	}
	m.write(";")
	return g
}

func (m *maker) function() ast.Func {
	m.write("func")
	name, at := m.name()
	f := ast.Func{Name: name, At: at}
	m.write("(")
	for i := range m.Intn(4) {
		if i > 0 {
			m.write(",")
		}
		p, _ := m.name()
		f.Params = append(f.Params, p)
	}
	m.write(")")
	f.Body = m.block()
	return f
}

func (m *maker) block() []ast.Stmt {
	m.write("{")
	var out []ast.Stmt
	m.left--
	if m.left > 0 {
		for range m.Intn(4) {
			out = append(out, m.stmt())
		}
	}
	m.left++
	m.write("}")
	return out
}

func (m *maker) stmt() ast.Stmt {
	var s ast.Stmt
	switch m.Intn(7) {
	case 0:
		s.Does, s.At = ast.Let, m.write("let")
		s.Name, _ = m.name()
		m.write("=")
		s.E = []ast.Expr{m.expr()}
	case 1:
		return m.choice()
	case 2:
		s.Does, s.At = ast.While, m.write("while")
		s.E = []ast.Expr{m.expr()}
		s.Then = m.block()
		return s
	case 3:
		s.Does, s.At = ast.Return, m.write("return")
		s.E = []ast.Expr{m.expr()}
	default:
		s = m.plain()
	}
	m.write(";")
	return s
}

func (m *maker) choice() ast.Stmt {
	s := ast.Stmt{Does: ast.If, At: m.write("if")}
	s.E = []ast.Expr{m.expr()}
	s.Then = m.block()
	if m.Intn(2) == 0 {
		return s
	}
	m.write("else")
	if m.Intn(2) == 0 {
		s.Else = m.block()
	} else {
		s.Else = []ast.Stmt{m.choice()}
	}
	return s
}

// plain is a call, or something ahead of =; in brackets, now and then.
func (m *maker) plain() ast.Stmt {
	var s ast.Stmt
	brackets := max(0, m.Intn(6)-3)
	for i := range brackets {
		at := m.write("(")
		if i == 0 {
			s.At = at
		}
	}
	name, at := m.name()
	if brackets == 0 {
		s.At = at
	}
	e := ast.Expr{At: at, Name: name}
	switch m.Intn(3) {
	case 0:
		e.Kind, e.Kids = ast.Call, m.list("(", ")", m.Intn(3))
		s.Does, s.E = ast.Run, []ast.Expr{e}
	case 1:
		s.Does, s.Name, s.E = ast.Put, name, m.list("[", "]", 1)
	default:
		s.Does, s.Name = ast.Set, name
	}
	for range brackets {
		m.write(")")
	}
	if s.Does != ast.Run {
		m.write("=")
		s.E = append(s.E, m.expr())
	}
	return s
}

func (m *maker) list(open, end string, n int) []ast.Expr {
	var out []ast.Expr
	m.write(open)
	for i := range n {
		if i > 0 {
			m.write(",")
		}
		out = append(out, m.expr())
	}
	m.write(end)
	return out
}

func (m *maker) expr() ast.Expr {
	m.left--
	defer func() { m.left++ }()
	return m.chain(m.and, ast.Or, "||")
}

func (m *maker) and() ast.Expr { return m.chain(m.rel, ast.And, "&&") }

func (m *maker) rel() ast.Expr {
	a := m.sum()
	if m.Intn(3) > 0 || m.left <= 0 {
		return a
	}
	mark := []string{"==", "!=", "<", "<=", ">", ">="}[m.Intn(6)]
	at := m.write(mark)
	b := m.sum()
	if mark[0] == '>' {
		a, b = b, a
	}
	return ast.Expr{Kind: ast.Both, At: at, Op: ops[mark], Kids: []ast.Expr{a, b}}
}

func (m *maker) sum() ast.Expr { return m.chain(m.term, ast.Both, "+", "-", "|", "^") }

func (m *maker) term() ast.Expr {
	return m.chain(m.unary, ast.Both, "*", "/", "%", "&", "<<", ">>")
}

func (m *maker) chain(part func() ast.Expr, k ast.Kind, marks ...string) ast.Expr {
	e := part()
	for m.left > 0 && m.Intn(3) == 0 {
		mark := marks[m.Intn(len(marks))]
		at := m.write(mark)
		e = ast.Expr{Kind: k, At: at, Op: ops[mark], Kids: []ast.Expr{e, part()}}
	}
	return e
}

// ops is the ops of the marks between two Kids of Both.
var ops = map[string]word.Op{
	"+": word.Add, "-": word.Sub, "|": word.Or, "^": word.Xor,
	"*": word.Mul, "/": word.Div, "%": word.Mod, "&": word.And, "<<": word.Shl, ">>": word.Shr,
	"==": word.Eq, "!=": word.Ne, "<": word.Lt, "<=": word.Le, ">": word.Lt, ">=": word.Le,
}

func (m *maker) unary() ast.Expr {
	n := 8
	if m.left <= 0 {
		n = 3
	}
	switch m.Intn(n) {
	case 0:
		v := m.Int63() >> m.Intn(63)
		return ast.Expr{Kind: ast.Num, At: m.write(fmt.Sprint(v)), Num: v}
	case 1:
		v := m.Intn(2)
		return ast.Expr{Kind: ast.Truth, At: m.write([]string{"false", "true"}[v]), Num: int64(v)}
	case 3:
		at := m.write("!")
		return ast.Expr{Kind: ast.Not, At: at, Kids: []ast.Expr{m.unary()}}
	case 4:
		at := m.write("-")
		return ast.Expr{Kind: ast.Both, At: at, Op: word.Sub, Kids: []ast.Expr{{Kind: ast.Num, At: at}, m.unary()}}
	case 5:
		m.write("(")
		e := m.expr()
		m.write(")")
		return e
	case 6:
		name, at := m.name()
		return ast.Expr{Kind: ast.Index, At: at, Name: name, Kids: m.list("[", "]", 1)}
	case 7:
		name, at := m.name()
		return ast.Expr{Kind: ast.Call, At: at, Name: name, Kids: m.list("(", ")", m.Intn(4))}
	}
	name, at := m.name()
	return ast.Expr{Kind: ast.Var, At: at, Name: name}
}

func TestMadePrograms(t *testing.T) {
	for seed := range int64(1500) {
		m, want := made(seed)
		s := string(m.b)
		if len(s) > api.MaxText {
			continue
		}
		if got := program(t, s); fmt.Sprint(got) != fmt.Sprint(want) {
			t.Fatalf("%q: %v, not %v", s, got, want)
		}
	}
}

func wantAgain(t *testing.T, p ast.Prog) {
	t.Helper()
	q, f := parse.Program(p.Text())
	if f.E != api.OK || !q.Same(p) || !p.Same(q) || q.Text() != p.Text() {
		t.Fatalf("%q: fault %v, and then %q", brief(p.Text()), f, brief(q.Text()))
	}
}

func TestTextParsedAgain(t *testing.T) {
	for seed := range int64(1500) {
		m, p := made(seed)
		if len(m.b) <= api.MaxText && len(p.Text()) <= api.MaxText {
			wantAgain(t, program(t, string(m.b)))
		}
	}
	for _, s := range []string{
		"", "var a;", "func f() { }", "func f() { } var b[3]; func g(x) { } secret a; public c[4096];",
		"func f() { return -9223372036854775807 - 1; }", "func f() { return - - -a > !-b; }",
		"func f() { (a) = (b) >= c; ((a[i])) = -1; (f(1)); }", "func f() { if a { } else { } }", "func f() { if a { } else if b { } else { f(); } }",
		"func f() { while !(a || b && c) { return true; } return false; }",
	} {
		wantAgain(t, program(t, s))
	}
	// just deep enough as text: brackets stand around each pair
	wantAgain(t, program(t, "func f() { return a"+strings.Repeat(" + a", 198)+"; }"))
	deep := program(t, "func f() { return a"+strings.Repeat(" + a", 199)+"; }")
	if _, f := parse.Program(deep.Text()); f.E != api.ErrNest {
		t.Error(f)
	}
}
