package check_test

import (
	"fmt"
	"math/rand"
	"reflect"
	"testing"

	"palings/api"
	"palings/ast"
	"palings/check"
	"palings/word"
)

// maker makes programs that are right, but for what slips in once in a while.
type maker struct {
	r     *rand.Rand
	slip  int // one of so many choices is wrong; 0: none
	at    int
	p     ast.Prog
	env   []local
	fresh int
}

func (m *maker) slips() bool { return m.slip > 0 && m.r.Intn(m.slip) == 0 }

func (m *maker) place() api.Pos {
	m.at++
	return place(m.at)
}

// name is a new one; where it slips it is one of a few that are known somewhere, or nowhere.
func (m *maker) name() string {
	if m.slips() {
		return []string{"n1", "n2", "n3", "n5", "n8", "n12", "main", "nobody", ""}[m.r.Intn(9)]
	}
	m.fresh++
	return fmt.Sprint("n", m.fresh)
}

func made(seed int64, slip int) ast.Prog {
	m := &maker{r: rand.New(rand.NewSource(seed)), slip: slip}
	for range m.r.Intn(5) {
		m.p.Globals = append(m.p.Globals, m.global())
	}
	many := 1 + m.r.Intn(4)
	for i := range many {
		f := ast.Func{Name: m.name(), At: m.place()}
		for range m.r.Intn(4) {
			f.Params = append(f.Params, m.name())
		}
		if i == many-1 && !m.slips() {
			f.Name, f.Params = "main", nil
		}
		if m.slips() {
			f.Params = params(7)
		}
		m.p.Funcs = append(m.p.Funcs, f)
	}
	for i, f := range m.p.Funcs {
		m.env = nil
		for _, name := range f.Params {
			m.env = append(m.env, local{name, check.Int})
		}
		m.p.Funcs[i].Body = m.block(3)
	}
	return m.p
}

func (m *maker) global() ast.Global {
	g := ast.Global{Name: m.name(), At: m.place(), Hold: ast.Hold(m.r.Intn(3))}
	if m.r.Intn(2) == 0 {
		g.Size = 1 + m.r.Intn(api.MaxArray)
	}
	if m.slips() {
		g.Size = []int{-1, api.MaxArray + 1}[m.r.Intn(2)]
	}
	if m.slips() {
		g.Hold = []ast.Hold{-1, 3}[m.r.Intn(2)]
	}
	return g
}

func (m *maker) block(deep int) []ast.Stmt {
	known := len(m.env)
	var out []ast.Stmt
	for range m.r.Intn(5) {
		out = append(out, m.stmt(deep))
	}
	if !m.slips() {
		m.env = m.env[:known]
	}
	return out
}

func (m *maker) stmt(deep int) ast.Stmt {
	s := ast.Stmt{Does: ast.Does(1 + m.r.Intn(7)), At: m.place()}
	switch s.Does {
	case ast.Let:
		t := m.either()
		s.E = []ast.Expr{m.expr(3, t)}
		s.Name = m.name()
		m.env = append(m.env, local{s.Name, t})
	case ast.Set:
		l := m.variable(m.either())
		if l.name == "" {
			return m.stmt(deep)
		}
		s.Name, s.E = l.name, []ast.Expr{m.expr(3, l.t)}
	case ast.Put:
		s.Name = m.array()
		if s.Name == "" {
			return m.stmt(deep)
		}
		s.E = []ast.Expr{m.expr(3, check.Int), m.expr(3, check.Int)}
	case ast.If, ast.While:
		s.E = []ast.Expr{m.expr(3, check.Bool)}
		if deep > 0 {
			s.Then = m.block(deep - 1)
			s.Else = m.block(deep - 1)
		}
	default:
		s.E = []ast.Expr{m.expr(3, check.Int)}
	}
	if m.slip == 0 {
		return written(s)
	}
	if m.slips() {
		s.E = s.E[:m.r.Intn(len(s.E))]
	}
	if m.slips() {
		s.Does = ast.Does(m.r.Intn(10) - 1)
	}
	return s
}

// written is a statement that can be parsed, too: layer 4 makes a Run of Calls alone, and no While with an Else.
func written(s ast.Stmt) ast.Stmt {
	if s.Does == ast.Run && s.E[0].Kind != ast.Call {
		s.Does = ast.Return
	}
	if s.Does == ast.While {
		s.Else = nil
	}
	return s
}

func (m *maker) either() check.Type {
	return []check.Type{check.Int, check.Bool}[m.r.Intn(2)]
}

// variable is one of that type, or with no name, if there is none.
func (m *maker) variable(t check.Type) local {
	if m.slips() {
		return local{m.name(), t}
	}
	var some []local
	for _, l := range m.env {
		if l.t == t {
			some = append(some, l)
		}
	}
	for _, g := range m.p.Globals {
		if g.Size == 0 && t == check.Int {
			some = append(some, local{g.Name, t})
		}
	}
	if len(some) == 0 {
		return local{}
	}
	return some[m.r.Intn(len(some))]
}

func (m *maker) array() string {
	if m.slips() {
		return m.name()
	}
	var some []string
	for _, g := range m.p.Globals {
		if g.Size > 0 {
			some = append(some, g.Name)
		}
	}
	if len(some) == 0 {
		return ""
	}
	return some[m.r.Intn(len(some))]
}

func (m *maker) expr(deep int, t check.Type) ast.Expr {
	if m.slips() {
		t = m.either()
	}
	e := ast.Expr{At: m.place()}
	switch t {
	case check.Int:
		e = m.number(e, deep)
	default:
		e = m.truth(e, deep)
	}
	if m.slips() {
		e.Kids = append(e.Kids, e.Kids...)
	}
	if m.slips() && len(e.Kids) > 0 {
		e.Kids = e.Kids[1:]
	}
	if m.slips() {
		e.Kind = ast.Kind(m.r.Intn(12) - 1)
	}
	if m.slips() {
		e.Op = word.Op(m.r.Intn(18) - 1)
	}
	return e
}

func (m *maker) number(e ast.Expr, deep int) ast.Expr {
	v, a := m.variable(check.Int).name, m.array()
	switch m.r.Intn(6) {
	case 0:
		if v != "" {
			e.Kind, e.Name = ast.Var, v
			return e
		}
	case 1:
		if a != "" && deep > 0 {
			e.Kind, e.Name, e.Kids = ast.Index, a, m.several(1, deep, check.Int)
			return e
		}
	case 2:
		if f := m.p.Funcs[m.r.Intn(len(m.p.Funcs))]; deep > 0 {
			e.Kind, e.Name, e.Kids = ast.Call, f.Name, m.several(len(f.Params), deep, check.Int)
			return e
		}
	case 3, 4:
		if deep > 0 {
			e.Kind, e.Op, e.Kids = ast.Both, word.Op(1+m.r.Intn(10)), m.several(2, deep, check.Int)
			return e
		}
	}
	e.Kind, e.Num = ast.Num, m.r.Int63()
	return e
}

func (m *maker) truth(e ast.Expr, deep int) ast.Expr {
	v := m.variable(check.Bool).name
	switch m.r.Intn(5) {
	case 0:
		if v != "" {
			e.Kind, e.Name = ast.Var, v
			return e
		}
	case 1:
		if deep > 0 {
			e.Kind, e.Op, e.Kids = ast.Both, word.Op(11+m.r.Intn(4)), m.several(2, deep, check.Int)
			return e
		}
	case 2:
		if deep > 0 {
			e.Kind, e.Kids = ast.And+ast.Kind(m.r.Intn(2)), m.several(2, deep, check.Bool)
			return e
		}
	case 3:
		if deep > 0 {
			e.Kind, e.Kids = ast.Not, m.several(1, deep, check.Bool)
			return e
		}
	}
	e.Kind, e.Num = ast.Truth, int64(m.r.Intn(2))
	return e
}

func (m *maker) several(n, deep int, t check.Type) []ast.Expr {
	var out []ast.Expr
	for range n {
		out = append(out, m.expr(deep-1, t))
	}
	return out
}

func TestMadeProgramsThatAreRight(t *testing.T) {
	for seed := range int64(1000) {
		p := made(seed, 0)
		info, fault := check.Program(p)
		if fault.E != api.OK {
			t.Fatalf("seed %d: %v of\n%s", seed, fault, p.Text())
		}
		if len(info.Globals) != len(p.Globals) || len(info.Funcs) != len(p.Funcs) {
			t.Fatalf("seed %d: %v", seed, info)
		}
		q, byText, fault := check.Text(p.Text())
		if fault.E != api.OK || !q.Same(p) || !reflect.DeepEqual(byText, info) {
			t.Fatalf("seed %d: %v of the text\n%s", seed, fault, p.Text())
		}
	}
}

func TestMadeProgramsThatAreWrong(t *testing.T) {
	seen := map[api.Errno]int{}
	for seed := range int64(12000) {
		slip := []int{15, 60, 250}[seed%3]
		p, same := made(seed, slip), made(seed, slip)
		want := firstFault(p)
		info, got := check.Program(p)
		if got != want {
			t.Fatalf("seed %d: %v, want %v of\n%s", seed, got, want, p.Text())
		}
		if got.E != api.OK && !noInfo(info) {
			t.Fatalf("seed %d: %v beside %v", seed, info, got)
		}
		if !reflect.DeepEqual(p, same) {
			t.Fatalf("seed %d: the program was changed", seed)
		}
		seen[got.E]++
	}
	for _, e := range []api.Errno{api.OK, api.ErrBad, api.ErrTwice, api.ErrMany, api.ErrName, api.ErrType, api.ErrCount, api.ErrMain} {
		if seen[e] < 30 {
			t.Errorf("only %d programs with the error %d", seen[e], e)
		}
	}
}
