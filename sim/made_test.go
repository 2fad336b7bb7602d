package sim_test

import (
	"fmt"
	"math/rand"
	"reflect"
	"testing"

	"palings/api"
	"palings/ast"
	"palings/sim"
	"palings/ssa"
	"palings/word"
)

// maker makes programs that are right, of small numbers, so that they meet the edges of small lists, and branch both ways.
type maker struct {
	*rand.Rand
	p ssa.Prog
	loop
}

// loop is one that counts down, in a function's blocks top and top+1; top is 0, where there is none.
type loop struct {
	top   int
	count int // the top's first parameter
	left  int // the body's first one, which is as much
	less  int // 1 less
}

func made(seed int64) (ssa.Prog, [][]int64) {
	m := &maker{Rand: rand.New(rand.NewSource(seed))}
	m.p.Arrays = []ssa.Array{{Name: "w", Hold: ast.Hold(m.Intn(3))}, {Name: "h", Hold: ast.Hold(m.Intn(3)), Size: 1 + m.Intn(5)}}
	for range m.Intn(3) {
		m.p.Arrays = append(m.p.Arrays, ssa.Array{Size: m.Intn(4), Hold: ast.Hold(m.Intn(3))})
	}
	for range 1 + m.Intn(5) {
		f := ssa.Func{Blocks: make([]ssa.Block, 1+m.Intn(7))}
		f.Blocks[0].Params = make([]int, m.Intn(4))
		m.p.Funcs = append(m.p.Funcs, f)
	}
	if m.Intn(3) == 0 {
		m.p.Main = m.Intn(len(m.p.Funcs))
	}
	m.p.Funcs[m.p.Main].Blocks[0].Params = nil
	for i, f := range m.p.Funcs {
		m.loop = loop{}
		if len(f.Blocks) > 3 && m.Intn(3) > 0 {
			m.top = 1 + m.Intn(len(f.Blocks)-3)
		}
		m.values(i, f)
		m.ways(f)
		for b := range f.Blocks {
			m.uses(f, b)
		}
	}
	var in [][]int64
	for range m.Intn(5) {
		var words []int64
		for range m.Intn(6) {
			words = append(words, m.word())
		}
		in = append(in, words)
	}
	return m.p, in
}

func (m *maker) word() int64 {
	if m.Intn(8) == 0 {
		return words[m.Intn(len(words))]
	}
	return int64(m.Intn(7)) - 1
}

// values lays the instructions, and gives each value its number, some of which are great.
func (m *maker) values(at int, f ssa.Func) {
	numbers := m.Perm(200)
	next := func() int {
		v := numbers[0] + 1
		numbers = numbers[1:]
		if v%5 == 0 {
			v <<= 40
		}
		return v
	}
	for b := range f.Blocks {
		block := &f.Blocks[b]
		if b > 0 {
			block.Params = make([]int, 1+m.Intn(3))
		} else {
			block.Ins = append(block.Ins, num(0, 0), num(0, 1), num(0, int64(m.Intn(12))), get(0, 0))
		}
		for k := range block.Params {
			block.Params[k] = next()
		}
		for range m.Intn(5) {
			block.Ins = append(block.Ins, m.instruction(at))
		}
		for k := range block.Ins {
			if i := &block.Ins[k]; i.Op != ssa.Set && i.Op != ssa.Store {
				i.Dst = next()
			}
		}
	}
	if m.top > 0 {
		body := &f.Blocks[m.top+1]
		m.loop = loop{m.top, f.Blocks[m.top].Params[0], body.Params[0], next()}
		body.Ins = append(body.Ins, bin(m.less, word.Sub, m.left, f.Blocks[0].Ins[1].Dst))
	}
}

var often = []ssa.Op{ssa.Const, ssa.Bin, ssa.Bin, ssa.Get, ssa.Set, ssa.Load, ssa.Store, ssa.Call, ssa.Call, ssa.Call}

// instruction is mostly one that doesn't trap, and calls mostly a function behind, so that there is an end.
func (m *maker) instruction(at int) ssa.Ins {
	i := ssa.Ins{Op: often[m.Intn(len(often))], Num: m.word(), Bin: word.Op(1 + m.Intn(15))}
	switch i.Op {
	case ssa.Bin:
		if i.Bin.Divides() && m.Intn(2) == 0 {
			i.Bin = word.Add
		}
		i.Args = make([]int, 2)
	case ssa.Get, ssa.Set, ssa.Load, ssa.Store:
		i.Arr = m.array(i.Op == ssa.Load || i.Op == ssa.Store)
		i.Args = make([]int, []int{0, 1, 1, 2}[i.Op-ssa.Get])
	case ssa.Call:
		i.Fn = m.Intn(len(m.p.Funcs))
		if i.Fn <= at && m.Intn(10) > 0 {
			return ssa.Ins{Op: ssa.Const, Num: m.word()}
		}
		i.Args = make([]int, len(m.p.Funcs[i.Fn].Blocks[0].Params))
	}
	return i
}

func (m *maker) array(isList bool) int {
	for {
		if a := m.Intn(len(m.p.Arrays)); (m.p.Arrays[a].Size > 0) == isList {
			return a
		}
	}
}

// forms is how many ways each kind of end has.
var forms = map[ssa.Ends]int{ssa.Jump: 1, ssa.Branch: 2}

func (m *maker) ways(f ssa.Func) {
	for b := range f.Blocks {
		e := &f.Blocks[b].End
		e.Kind = []ssa.Ends{ssa.Jump, ssa.Jump, ssa.Branch, ssa.Branch, ssa.Branch, ssa.Return, ssa.Trap}[m.Intn(7)]
		if e.Kind == ssa.Trap && m.Intn(2) == 0 || len(f.Blocks) == 1 || b == len(f.Blocks)-1 && m.Intn(3) > 0 {
			e.Kind = ssa.Return
		}
		if m.top > 0 && b == m.top {
			e.Kind = ssa.Branch
		} else if m.top > 0 && b == m.top+1 {
			e.Kind = ssa.Jump
		}
		if e.Kind == ssa.Trap {
			e.Trap = api.Trap(1 + m.Intn(2))
		}
		e.Ways = make([]ssa.Edge, forms[e.Kind])
		for k := range e.Ways {
			e.Ways[k].To = 1 + m.Intn(len(f.Blocks)-1)
			if b+1 < len(f.Blocks) && m.Intn(2) == 0 {
				e.Ways[k].To = b + 1 + m.Intn(len(f.Blocks)-b-1)
			}
			if m.top > 0 && b == m.top {
				e.Ways[k].To = b + 1 + k
			} else if m.top > 0 && b == m.top+1 {
				e.Ways[k].To = m.top
			}
			e.Ways[k].Args = make([]int, len(f.Blocks[e.Ways[k].To].Params))
		}
	}
}

// comes tells which blocks are come to without going through that one.
func comes(f ssa.Func, without int) []bool {
	met := make([]bool, len(f.Blocks))
	var from func(b int)
	from = func(b int) {
		if b == without || met[b] {
			return
		}
		met[b] = true
		for _, w := range f.Blocks[b].End.Ways {
			from(w.To)
		}
	}
	from(0)
	return met
}

// ahead is the values that are made ahead of a place, however it is come to; where nothing comes it is those of the whole function.
func ahead(f ssa.Func, b, at int) []int {
	var out []int
	for other, block := range f.Blocks {
		until := len(block.Ins)
		if other == b && comes(f, -1)[b] {
			until = at
		} else if comes(f, other)[b] {
			continue
		}
		out = append(out, block.Params...)
		for _, i := range block.Ins[:until] {
			if i.Dst != 0 {
				out = append(out, i.Dst)
			}
		}
	}
	return out
}

func (m *maker) uses(f ssa.Func, b int) {
	block := &f.Blocks[b]
	fill := func(at int, args []int) {
		for k := range args {
			some := ahead(f, b, at)
			args[k] = some[m.Intn(len(some))]
			if m.Intn(2) == 0 { // one that is made lately
				args[k] = some[max(0, len(some)-1-m.Intn(4))]
			}
		}
	}
	for at, i := range block.Ins {
		if m.top > 0 && i.Dst == m.less {
			continue
		}
		fill(at, i.Args)
		if (i.Op == ssa.Load || i.Op == ssa.Store) && m.Intn(4) > 0 {
			i.Args[0] = f.Blocks[0].Ins[0].Dst // a 0
		}
	}
	end := len(block.Ins)
	if block.End.Kind == ssa.Branch || block.End.Kind == ssa.Return {
		val := []int{0}
		fill(end, val)
		block.End.Val = val[0]
	}
	for k := range block.End.Ways {
		w := block.End.Ways[k]
		fill(end, w.Args)
		if m.top > 0 && w.To == m.top && m.Intn(5) > 0 {
			w.Args[0] = f.Blocks[0].Ins[2].Dst
		}
	}
	if m.top > 0 && b == m.top {
		block.End.Val, block.End.Ways[0].Args[0] = m.count, m.count
	} else if m.top > 0 && b == m.top+1 {
		block.End.Ways[0].Args[0] = m.less
	}
}

// same holds a run against what it is to be.
func same(t *testing.T, seed int64, p ssa.Prog, in [][]int64, fuel int) (sim.Result, api.Errno) {
	t.Helper()
	before := fmt.Sprint(p, in)
	want, wantErr := expected(p, in, fuel)
	got, err := sim.Run(p, in, fuel)
	if err != wantErr || !reflect.DeepEqual(got, want) {
		t.Fatalf("seed %d, fuel %d, in %v: error %d, %+v\nwant %d, %+v of\n%+v", seed, fuel, in, err, got, wantErr, want, p)
	}
	if fmt.Sprint(p, in) != before {
		t.Fatalf("seed %d: it was changed", seed)
	}
	return got, err
}

func TestMadePrograms(t *testing.T) {
	traps := map[api.Trap]int{}
	long, deep, endless := 0, 0, 0
	for seed := range int64(10000) {
		p, in := made(seed)
		if e := p.Check(); e != api.OK {
			t.Fatalf("seed %d: %d of\n%+v", seed, e, p)
		}
		r, err := same(t, seed, p, in, 3000)
		if err != api.OK {
			endless++
			continue
		}
		traps[r.Trap]++
		same(t, seed, p, in, r.Steps)
		same(t, seed, p, in, r.Steps-1)
		same(t, seed, p, in, rand.New(rand.NewSource(seed)).Intn(r.Steps+2)-1)
		if r.Steps > 40 {
			long++
		}
		if r.Deep > 2 {
			deep++
		}
	}
	for _, trap := range []api.Trap{api.NoTrap, api.Bounds, api.Zero, api.Wild} {
		if traps[trap] < 300 {
			t.Errorf("only %d runs with the trap %d", traps[trap], trap)
		}
	}
	if long < 300 || deep < 300 || endless < 300 {
		t.Error("too few runs that are long, deep, endless:", long, deep, endless)
	}
	t.Log(traps, long, deep, endless)
}
