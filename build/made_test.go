package build_test

import (
	"fmt"
	"math/rand"
	"testing"

	"palings/api"
	"palings/ast"
	"palings/check"
	"palings/sim"
	"palings/ssa"
	"palings/word"
)

// words is what ops are tried on.
var words = []int64{0, 1, -1, 2, -2, 3, 7, -7, 63, 64, 65, -64, 1 << 32, least, least + 1, most, most - 1}

// maker makes programs that are right, with few names, which are turned often, and small numbers, so that they meet the edges of small arrays.
type maker struct {
	r     *rand.Rand
	p     ast.Prog
	env   []local
	fresh int
	at    int // which function is made
}

type local struct {
	name string
	t    check.Type
}

func (m *maker) name() string {
	m.fresh++
	return fmt.Sprint("n", m.fresh)
}

func made(seed int64) (ast.Prog, [][]int64) {
	m := &maker{r: rand.New(rand.NewSource(seed))}
	for range 1 + m.r.Intn(6) {
		size := []int{0, 0, 1, 2, 3, 5}[m.r.Intn(6)]
		m.p.Globals = append(m.p.Globals, ast.Global{Name: m.name(), Hold: ast.Hold(m.r.Intn(3)), Size: size})
	}
	for range 1 + m.r.Intn(4) {
		f := ast.Func{Name: m.name()}
		for range m.r.Intn(4) {
			f.Params = append(f.Params, m.name())
		}
		m.p.Funcs = append(m.p.Funcs, f)
	}
	m.p.Funcs[0].Name, m.p.Funcs[0].Params = "main", nil
	for i, f := range m.p.Funcs {
		m.env, m.at = nil, i
		for _, name := range f.Params {
			m.env = append(m.env, local{name, check.Int})
		}
		m.p.Funcs[i].Body = m.block(4)
	}
	return m.p, m.inputs()
}

func (m *maker) inputs() [][]int64 {
	var in [][]int64
	for range m.r.Intn(7) {
		var list []int64
		for range m.r.Intn(7) {
			list = append(list, m.word())
		}
		in = append(in, list)
	}
	return in
}

func (m *maker) word() int64 {
	if m.r.Intn(8) == 0 {
		return words[m.r.Intn(len(words))]
	}
	return int64(m.r.Intn(7)) - 1
}

// block may let names again that were let in a block beside it, of another type, too.
func (m *maker) block(deep int) []ast.Stmt {
	known, fresh := len(m.env), m.fresh
	var out []ast.Stmt
	for range m.r.Intn(6) {
		if deep > 0 && m.r.Intn(5) == 0 {
			out = append(out, m.counted(deep)...)
		}
		out = append(out, m.stmt(deep))
	}
	m.env = m.env[:known]
	if m.r.Intn(2) == 0 {
		m.fresh = fresh
	}
	return out
}

func (m *maker) stmt(deep int) ast.Stmt {
	switch m.r.Intn(14) {
	case 0, 1:
		t := m.either()
		s := does(ast.Let, m.name(), m.expr(2, t))
		m.env = append(m.env, local{s.Name, t})
		return s
	case 2, 3, 4, 5:
		if l := m.variable(m.either()); l.name != "" {
			return does(ast.Set, l.name, m.expr(2, l.t))
		}
	case 6, 7:
		if a, i := m.item(2); a != "" {
			return does(ast.Put, a, i, m.expr(2, check.Int))
		}
	case 8, 9, 10:
		if deep > 0 {
			return m.choice(deep)
		}
	case 11:
		if deep > 0 && m.r.Intn(4) == 0 {
			s := does(ast.While, "", m.expr(2, check.Bool))
			s.Then = m.block(deep - 1)
			if m.r.Intn(4) == 0 {
				s.Else = m.block(0)
			}
			return s
		}
	case 12:
		if deep < 4 || m.r.Intn(3) == 0 {
			return does(ast.Return, "", m.expr(3, check.Int))
		}
	}
	return does(ast.Run, "", m.expr(2, check.Int))
}

// counted is a loop that ends, if nobody turns its counter.
func (m *maker) counted(deep int) []ast.Stmt {
	c := m.name()
	m.env = append(m.env, local{c, check.Int})
	s := does(ast.While, "", both(word.Lt, variable(c), num(int64(m.r.Intn(5)))))
	if m.r.Intn(3) == 0 {
		s.E[0] = of(ast.And, s.E[0], m.expr(2, check.Bool))
	}
	s.Then = append([]ast.Stmt{does(ast.Set, c, both(word.Add, variable(c), num(1)))}, m.block(deep-1)...)
	return []ast.Stmt{does(ast.Let, c, num(0)), s}
}

func (m *maker) choice(deep int) ast.Stmt {
	s := does(ast.If, "", m.expr(2, check.Bool))
	s.Then = m.block(deep - 1)
	if m.r.Intn(2) == 0 {
		s.Else = m.block(deep - 1)
	}
	return s
}

func (m *maker) either() check.Type {
	return []check.Type{check.Int, check.Int, check.Bool}[m.r.Intn(3)]
}

// variable is one of that type, mostly one of the call, or with no name, if there is none.
func (m *maker) variable(t check.Type) local {
	var some []local
	for _, l := range m.env {
		if l.t == t {
			some = append(some, l, l)
		}
	}
	for _, g := range m.p.Globals {
		if g.Size == 0 && t == check.Int {
			some = append(some, local{g.Name, t})
		}
	}
	if len(some) == 0 {
		return local{}
	}
	return some[m.r.Intn(len(some))]
}

// item is a word's place: an array, and an index, which is mostly within it; no name, if it found no array.
func (m *maker) item(deep int) (string, ast.Expr) {
	g := m.p.Globals[m.r.Intn(len(m.p.Globals))]
	if g.Size == 0 {
		return "", ast.Expr{}
	}
	i := m.expr(deep-1, check.Int)
	switch m.r.Intn(12) {
	case 0:
		return g.Name, i
	case 1, 2:
		return g.Name, num(int64(m.r.Intn(g.Size)))
	}
	return g.Name, both(word.And, i, num(int64(m.r.Intn(g.Size))))
}

// call is of a function behind this one, so that it ends; one in a few is of any.
func (m *maker) call(deep int) ast.Expr {
	first := m.at + 1
	if first == len(m.p.Funcs) || m.r.Intn(12) == 0 {
		first = 0
	}
	f := m.p.Funcs[first+m.r.Intn(len(m.p.Funcs)-first)]
	return ast.Expr{Kind: ast.Call, Name: f.Name, Kids: m.several(len(f.Params), deep, check.Int)}
}

func (m *maker) several(n, deep int, t check.Type) []ast.Expr {
	var out []ast.Expr
	for range n {
		out = append(out, m.expr(deep-1, t))
	}
	return out
}

func (m *maker) expr(deep int, t check.Type) ast.Expr {
	if l := m.variable(t); l.name != "" && m.r.Intn(5) < 2 {
		return variable(l.name)
	}
	if t == check.Bool {
		return m.truth(deep)
	}
	if deep > 0 {
		switch m.r.Intn(8) {
		case 0:
			if a, i := m.item(deep); a != "" {
				return index(a, i)
			}
		case 1, 2:
			if m.at+1 < len(m.p.Funcs) || m.r.Intn(12) == 0 {
				return m.call(deep)
			}
		case 3, 4, 5:
			kids := m.several(2, deep, check.Int)
			o := word.Op(1 + m.r.Intn(10))
			if o.Divides() && m.r.Intn(2) == 0 {
				kids[1] = both(word.Or, kids[1], num(1))
			}
			return both(o, kids[0], kids[1])
		}
	}
	return num(m.word())
}

func (m *maker) truth(deep int) ast.Expr {
	if deep > 0 {
		switch m.r.Intn(5) {
		case 0, 1:
			kids := m.several(2, deep, check.Int)
			return both(word.Eq+word.Op(m.r.Intn(4)), kids[0], kids[1])
		case 2:
			return of(ast.And+ast.Kind(m.r.Intn(2)), m.several(2, deep, check.Bool)...)
		case 3:
			return of(ast.Not, m.several(1, deep, check.Bool)...)
		}
	}
	return truth(int64(m.r.Intn(4)) - 1)
}

// inEnd says that where blocks end the program ends too, though it has taken more fuel than that already.
func inEnd(t *testing.T, seed int64, p ast.Prog, q ssa.Prog, in [][]int64, fuel int) {
	t.Helper()
	if _, e := sim.Run(q, in, fuel); e == api.OK {
		if _, e = alike(t, p, q, in, 1000*fuel); e != api.OK {
			t.Fatalf("seed %d: the blocks end, but not\n%s", seed, p.Text())
		}
	}
}

func TestMadePrograms(t *testing.T) {
	traps := map[api.Trap]int{}
	long, deep, endless := 0, 0, 0
	for seed := range int64(6000) {
		p, in := made(seed)
		q := built(t, p)
		allReached(t, q)
		allAskedFor(t, q)
		r := rand.New(rand.NewSource(seed))
		for range 2 {
			a, e := alike(t, p, q, in, 3000)
			if e != api.OK {
				inEnd(t, seed, p, q, in, 3000)
				endless++
				continue
			}
			traps[a.Trap]++
			if a.Steps > 60 {
				long++
			}
			if a.Deep > 2 {
				deep++
			}
			in = (&maker{r: r}).inputs()
		}
	}
	for _, trap := range []api.Trap{api.NoTrap, api.Bounds, api.Zero} {
		if traps[trap] < 300 {
			t.Errorf("only %d runs with the trap %d", traps[trap], trap)
		}
	}
	if long < 500 || deep < 500 || endless < 500 {
		t.Error("too few runs that are long, deep, endless:", long, deep, endless)
	}
	t.Log(traps, long, deep, endless)
}

// allAskedFor says that each parameter is used at last by what is no parameter.
func allAskedFor(t *testing.T, q ssa.Prog) {
	t.Helper()
	for _, f := range q.Funcs {
		asked := map[int]bool{}
		for _, b := range f.Blocks {
			for _, i := range b.Ins {
				for _, v := range i.Args {
					asked[v] = true
				}
			}
			asked[b.End.Val] = true
		}
		for many := -1; many != len(asked); {
			many = len(asked)
			for _, b := range f.Blocks {
				for _, w := range b.End.Ways {
					for k, v := range w.Args {
						if asked[f.Blocks[w.To].Params[k]] {
							asked[v] = true
						}
					}
				}
			}
		}
		for _, b := range f.Blocks[1:] {
			for _, v := range b.Params {
				if !asked[v] {
					t.Fatalf("nobody asks for %d of %+v", v, f)
				}
			}
		}
	}
}
