package fold_test

import (
	"math/rand"
	"testing"

	"palings/api"
	"palings/ast"
	"palings/ssa"
	"palings/word"
)

// maker makes programs that are right, in which much is to be done.
type maker struct {
	*rand.Rand
	p ssa.Prog
	loop
}

// loop is one that counts down, in a function's blocks top and top+1; top is 0, where there is none.
type loop struct {
	top   int
	count int // the top's first parameter
	left  int // the body's first one, which is as much
	less  int // 1 less
}

func made(seed int64) (ssa.Prog, [][][]int64) {
	m := &maker{Rand: rand.New(rand.NewSource(seed))}
	m.p.Arrays = []ssa.Array{{Name: "w", Hold: ast.Open}, {Name: "h", Hold: ast.Hold(m.Intn(3)), Size: 1 + m.Intn(4)}, {Name: "s", Hold: ast.Closed}}
	for range 1 + m.Intn(3) {
		f := ssa.Func{Blocks: make([]ssa.Block, 1+m.Intn(9))}
		f.Blocks[0].Params = make([]int, m.Intn(4))
		m.p.Funcs = append(m.p.Funcs, f)
	}
	m.p.Funcs[0].Blocks[0].Params = nil
	for i, f := range m.p.Funcs {
		m.loop = loop{}
		if len(f.Blocks) > 3 && m.Intn(3) > 0 {
			m.top = 1 + m.Intn(len(f.Blocks)-3)
		}
		m.values(i, f)
		m.ways(f)
		for b := range f.Blocks {
			m.uses(f, b)
		}
	}
	return m.p, m.inputs()
}

func (m *maker) inputs() [][][]int64 {
	var ins [][][]int64
	for range 3 {
		w := m.word()
		for range 2 {
			ins = append(ins, [][]int64{{w}, {m.word(), m.word()}, {m.word()}})
		}
	}
	return ins
}

func (m *maker) word() int64 {
	if m.Intn(12) == 0 {
		return edges[m.Intn(len(edges))]
	}
	return int64(m.Intn(5)) - 1
}

// values lays the instructions, and gives each value its number, some of which are great.
func (m *maker) values(at int, f ssa.Func) {
	numbers := m.Perm(200)
	next := func() int {
		v := numbers[0] + 1
		numbers = numbers[1:]
		if v%5 == 0 {
			v <<= 40
		}
		return v
	}
	num := func(n int64) ssa.Ins { return ssa.Ins{Op: ssa.Const, Num: n} }
	for b := range f.Blocks {
		block := &f.Blocks[b]
		if b > 0 {
			block.Params = make([]int, 1+m.Intn(3))
		} else {
			block.Ins = append(block.Ins, num(0), num(1), num(int64(m.Intn(7))), ssa.Ins{Op: ssa.Get, Arr: 2 * m.Intn(2)})
		}
		for k := range block.Params {
			block.Params[k] = next()
		}
		for range m.Intn(7) {
			block.Ins = append(block.Ins, m.instruction(at))
		}
		for k := range block.Ins {
			if i := &block.Ins[k]; i.Op != ssa.Set && i.Op != ssa.Store {
				i.Dst = next()
			}
		}
	}
	if m.top > 0 {
		body := &f.Blocks[m.top+1]
		m.loop = loop{m.top, f.Blocks[m.top].Params[0], body.Params[0], next()}
		body.Ins = append(body.Ins, ssa.Ins{Op: ssa.Bin, Bin: word.Sub, Dst: m.less, Args: []int{m.left, f.Blocks[0].Ins[1].Dst}})
	}
}

var often = []ssa.Op{ssa.Const, ssa.Const, ssa.Bin, ssa.Bin, ssa.Bin, ssa.Bin, ssa.Bin, ssa.Get, ssa.Set, ssa.Load, ssa.Store, ssa.Call}

// instruction calls a function behind alone, or another one now and then.
func (m *maker) instruction(at int) ssa.Ins {
	i := ssa.Ins{Op: often[m.Intn(len(often))], Num: m.word(), Bin: word.Op(1 + m.Intn(15))}
	switch i.Op {
	case ssa.Bin:
		if m.Intn(2) == 0 {
			i.Bin = []word.Op{word.Add, word.Sub, word.Mul}[m.Intn(3)]
		}
		i.Args = make([]int, 2)
	case ssa.Get, ssa.Set:
		i.Arr = 2 * m.Intn(2)
		i.Args = make([]int, i.Op-ssa.Get)
	case ssa.Load, ssa.Store:
		i.Arr = 1
		i.Args = make([]int, 1+(i.Op-ssa.Load))
	case ssa.Call:
		i.Fn = m.Intn(len(m.p.Funcs))
		if i.Fn <= at && m.Intn(10) > 0 {
			return ssa.Ins{Op: ssa.Const, Num: m.word()}
		}
		i.Args = make([]int, len(m.p.Funcs[i.Fn].Blocks[0].Params))
	}
	return i
}

// forms is how many ways each kind of end has.
var forms = map[ssa.Ends]int{ssa.Jump: 1, ssa.Branch: 2}

func (m *maker) ways(f ssa.Func) {
	for b := range f.Blocks {
		e := &f.Blocks[b].End
		e.Kind = []ssa.Ends{ssa.Jump, ssa.Jump, ssa.Branch, ssa.Branch, ssa.Branch, ssa.Return, ssa.Trap}[m.Intn(7)]
		if e.Kind > ssa.Branch && b < 2 && m.Intn(3) > 0 {
			e.Kind = ssa.Branch
		}
		if e.Kind == ssa.Trap && m.Intn(2) == 0 || len(f.Blocks) == 1 || b == len(f.Blocks)-1 && m.Intn(3) > 0 {
			e.Kind = ssa.Return
		}
		if m.top > 0 && b == m.top {
			e.Kind = ssa.Branch
		} else if m.top > 0 && b == m.top+1 {
			e.Kind = ssa.Jump
		}
		if e.Kind == ssa.Trap {
			e.Trap = api.Trap(1 + m.Intn(2))
		}
		e.Ways = make([]ssa.Edge, forms[e.Kind])
		for k := range e.Ways {
			e.Ways[k].To = 1 + m.Intn(len(f.Blocks)-1)
			if b+1 < len(f.Blocks) && m.Intn(3) > 0 {
				e.Ways[k].To = b + 1 + m.Intn(len(f.Blocks)-b-1)
			}
			if m.top > 0 && b == m.top {
				e.Ways[k].To = b + 1 + k
			} else if m.top > 0 && b == m.top+1 {
				e.Ways[k].To = m.top
			}
			e.Ways[k].Args = make([]int, len(f.Blocks[e.Ways[k].To].Params))
		}
	}
}

// comes tells which blocks are come to without going through that one.
func comes(f ssa.Func, without int) []bool {
	met := make([]bool, len(f.Blocks))
	var from func(b int)
	from = func(b int) {
		if b == without || met[b] {
			return
		}
		met[b] = true
		for _, w := range f.Blocks[b].End.Ways {
			from(w.To)
		}
	}
	from(0)
	return met
}

// ahead is the values that are made ahead of a place, however it is come to; where nothing comes it is those of the whole function.
func ahead(f ssa.Func, b, at int) []int {
	var out []int
	for other, block := range f.Blocks {
		until := len(block.Ins)
		if other == b && comes(f, -1)[b] {
			until = at
		} else if comes(f, other)[b] {
			continue
		}
		out = append(out, block.Params...)
		for _, i := range block.Ins[:until] {
			if i.Dst != 0 {
				out = append(out, i.Dst)
			}
		}
	}
	return out
}

func (m *maker) uses(f ssa.Func, b int) {
	block := &f.Blocks[b]
	fill := func(at int, args []int) {
		some := ahead(f, b, at)
		for k := range args {
			args[k] = some[m.Intn(len(some))]
			switch m.Intn(4) {
			case 0: // one that is made lately
				args[k] = some[max(0, len(some)-1-m.Intn(3))]
			case 1: // a 0, a 1, a number, a word
				args[k] = f.Blocks[0].Ins[m.Intn(4)].Dst
			}
		}
	}
	for at, i := range block.Ins {
		if m.top > 0 && i.Dst == m.less {
			continue
		}
		fill(at, i.Args)
		if (i.Op == ssa.Load || i.Op == ssa.Store) && m.Intn(4) > 0 {
			i.Args[0] = f.Blocks[0].Ins[0].Dst // a 0
		}
	}
	end := len(block.Ins)
	if block.End.Kind == ssa.Branch || block.End.Kind == ssa.Return {
		val := []int{0}
		fill(end, val)
		block.End.Val = val[0]
	}
	for k := range block.End.Ways {
		w := block.End.Ways[k]
		fill(end, w.Args)
		for n, v := range f.Blocks[w.To].Params {
			m.often(f, b, w.To, n, v, w.Args)
		}
		if m.top > 0 && w.To == m.top && m.Intn(5) > 0 {
			w.Args[0] = f.Blocks[0].Ins[2].Dst
		}
	}
	if m.top > 0 && b == m.top {
		block.End.Val, block.End.Ways[0].Args[0] = m.count, m.count
	} else if m.top > 0 && b == m.top+1 {
		block.End.Ways[0].Args[0] = m.less
	}
}

// often hands a parameter itself on a way back, or one and the same value of the first block on all ways.
func (m *maker) often(f ssa.Func, b, to, n, v int, args []int) {
	if m.Intn(4) == 0 {
		return
	}
	args[n] = f.Blocks[0].Ins[v%4].Dst
	if comes(f, -1)[b] && !comes(f, to)[b] && m.Intn(3) > 0 {
		args[n] = v
	}
}

// sizes is how many blocks, parameters and instructions programs have.
func sizes(p ssa.Prog) (n [3]int) {
	for _, f := range p.Funcs {
		n[0] += len(f.Blocks)
		for _, b := range f.Blocks {
			n[1] += len(b.Params)
			n[2] += len(b.Ins)
		}
	}
	return n
}

func TestMadePrograms(t *testing.T) {
	var was, is [3]int
	ended, endless := 0, 0
	for seed := range int64(5000) {
		p, ins := made(seed)
		if e := p.Check(); e != api.OK {
			t.Fatalf("seed %d: %d of\n%+v", seed, e, p)
		}
		q := folded(t, p)
		for k, n := range sizes(p) {
			was[k] += n
			is[k] += sizes(q)[k]
		}
		n := sameOn(t, p, q, ins)
		ended += n
		endless += len(ins) - n
	}
	for k := range was {
		if is[k] >= was[k]*3/4 || is[k] < was[k]/20 {
			t.Error("not much to do:", was, is)
		}
	}
	if ended < 15000 || endless < 1000 {
		t.Error("too few that end, or don't:", ended, endless)
	}
	t.Log(was, is, ended, endless)
}
