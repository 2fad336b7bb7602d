package ssa_test

import (
	"fmt"
	"math/rand"
	"testing"

	"palings/api"
	"palings/ast"
	"palings/ssa"
	"palings/word"
)

// maker makes programs that are right but for uses, which are right mostly.
type maker struct {
	*rand.Rand
	p ssa.Prog
}

func made(seed int64) ssa.Prog {
	m := &maker{Rand: rand.New(rand.NewSource(seed))}
	m.p.Arrays = []ssa.Array{{Name: "w"}, {Name: "h", Size: 1 + m.Intn(9)}}
	for range m.Intn(3) {
		m.p.Arrays = append(m.p.Arrays, ssa.Array{Size: m.Intn(3), Hold: ast.Hold(m.Intn(3))})
	}
	for range 1 + m.Intn(3) {
		f := ssa.Func{Blocks: make([]ssa.Block, 1+m.Intn(6))}
		for range m.Intn(3) {
			f.Blocks[0].Params = append(f.Blocks[0].Params, 0)
		}
		m.p.Funcs = append(m.p.Funcs, f)
	}
	m.p.Funcs[0].Blocks[0].Params = nil
	for i := range m.p.Funcs {
		m.values(m.p.Funcs[i])
		for b := range m.p.Funcs[i].Blocks {
			m.uses(m.p.Funcs[i], b)
		}
	}
	return m.p
}

// values lays the instructions, and gives each value its number.
func (m *maker) values(f ssa.Func) {
	numbers := m.Perm(60)
	next := func() int {
		v := numbers[0] + 1
		numbers = numbers[1:]
		return v
	}
	for b := range f.Blocks {
		block := &f.Blocks[b]
		if b > 0 {
			block.Params = make([]int, m.Intn(3))
		}
		for k := range block.Params {
			block.Params[k] = next()
		}
		if b == 0 {
			block.Ins = append(block.Ins, num(next(), 5))
		}
		for range m.Intn(4) {
			i := m.instruction()
			if makes(i) {
				i.Dst = next()
			}
			block.Ins = append(block.Ins, i)
		}
	}
}

func (m *maker) instruction() ssa.Ins {
	i := ssa.Ins{Op: ssa.Op(1 + m.Intn(7)), Bin: word.Op(1 + m.Intn(15)), Arr: m.Intn(len(m.p.Arrays)), Fn: m.Intn(len(m.p.Funcs))}
	args := []int{ssa.Const: 0, ssa.Bin: 2, ssa.Get: 0, ssa.Set: 1, ssa.Load: 1, ssa.Store: 2, ssa.Call: len(m.p.Funcs[i.Fn].Blocks[0].Params)}
	i.Args = make([]int, args[i.Op])
	word := m.p.Arrays[i.Arr].Size == 0
	if i.Op == ssa.Get || i.Op == ssa.Set {
		if !word {
			i.Arr = 0
		}
	} else if word {
		i.Arr = 1
	}
	return i
}

func (m *maker) uses(f ssa.Func, b int) {
	block := &f.Blocks[b]
	for at := range block.Ins {
		m.fill(f, b, at, block.Ins[at].Args)
	}
	kind := ssa.Ends(1 + m.Intn(4))
	if len(f.Blocks) == 1 && kind < ssa.Return {
		kind += 2
	}
	block.End = ssa.End{Kind: kind}
	if kind == ssa.Trap {
		block.End.Trap = api.Trap(1 + m.Intn(2))
	}
	val := make([]int, 1)
	m.fill(f, b, len(block.Ins), val)
	if kind == ssa.Branch || kind == ssa.Return {
		block.End.Val = val[0]
	}
	for range []int{ssa.Jump: 1, ssa.Branch: 2, ssa.Return: 0, ssa.Trap: 0}[kind] {
		w := ssa.Edge{To: 1 + m.Intn(len(f.Blocks)-1)}
		w.Args = make([]int, len(f.Blocks[w.To].Params))
		m.fill(f, b, len(block.Ins), w.Args)
		block.End.Ways = append(block.End.Ways, w)
	}
}

// fill takes values that are made in this block, or in the first one; a few are taken from anywhere.
func (m *maker) fill(f ssa.Func, b, at int, args []int) {
	for k := range args {
		from, ahead := f.Blocks[b], at
		if m.Intn(10) == 0 {
			from = f.Blocks[m.Intn(len(f.Blocks))]
			ahead = len(from.Ins)
		}
		some := append([]int{}, from.Params...)
		for _, i := range from.Ins[:ahead] {
			if makes(i) {
				some = append(some, i.Dst)
			}
		}
		if len(some) == 0 || m.Intn(6) == 0 {
			for _, i := range f.Blocks[0].Ins[:1] {
				some = append(some, i.Dst)
			}
		}
		args[k] = some[m.Intn(len(some))]
	}
}

// spoiled has one number of a program turned.
func spoiled(r *rand.Rand, p ssa.Prog) ssa.Prog {
	p = p.Clone()
	var numbers []*int
	add := func(n ...*int) { numbers = append(numbers, n...) }
	ops := []func(){}
	for i := range p.Arrays {
		add(&p.Arrays[i].Size)
		ops = append(ops, func() { p.Arrays[i].Hold = ast.Hold(r.Intn(6) - 1) })
	}
	add(&p.Main)
	for _, f := range p.Funcs {
		for b := range f.Blocks {
			block := &f.Blocks[b]
			for k := range block.Params {
				add(&block.Params[k])
			}
			for k := range block.Ins {
				i := &block.Ins[k]
				add(&i.Dst, &i.Arr, &i.Fn)
				for n := range i.Args {
					add(&i.Args[n], &i.Args[n])
				}
				ops = append(ops, func() { i.Op = ssa.Op(r.Intn(10) - 1) }, func() { i.Bin = word.Op(r.Intn(18) - 1) }, func() { i.Args = append(i.Args, 1) })
			}
			e := &block.End
			add(&e.Val)
			for k := range e.Ways {
				add(&e.Ways[k].To, &e.Ways[k].To)
				for n := range e.Ways[k].Args {
					add(&e.Ways[k].Args[n])
				}
			}
			ops = append(ops, func() { e.Kind = ssa.Ends(r.Intn(6)) }, func() { e.Trap = api.Trap(r.Intn(6) - 1) }, func() { e.Ways = append(e.Ways, to(1)) })
		}
	}
	for _, n := range numbers {
		ops = append(ops, func() { *n += []int{-2, -1, 1, 2, 4096}[r.Intn(5)] })
	}
	ops[r.Intn(len(ops))]()
	return p
}

func TestMadePrograms(t *testing.T) {
	counts := map[string]int{}
	try := func(seed int64, p ssa.Prog, what string) {
		want := expected(p)
		if got := p.Check(); (got == api.OK) != want || !want && got != api.ErrBad {
			t.Fatalf("seed %d, %s: %d, but right: %v\n%+v", seed, what, got, want, p)
		}
		counts[fmt.Sprint(what, want)]++
	}
	for seed := range int64(30000) {
		p := made(seed)
		try(seed, p, "made ")
		r := rand.New(rand.NewSource(seed))
		for range 3 {
			try(seed, spoiled(r, p), "spoiled ")
		}
	}
	for _, what := range []string{"made true", "made false", "spoiled true", "spoiled false"} {
		if counts[what] < 5000 {
			t.Error("only a few programs:", counts)
		}
	}
}
