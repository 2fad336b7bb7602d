package taint_test

import (
	"fmt"
	"maps"
	"math/rand"
	"slices"
	"testing"

	"palings/api"
	"palings/ast"
	"palings/ssa"
	"palings/taint"
	"palings/word"
)

// maker makes programs that are right, of few arrays and functions, so that much comes to each.
type maker struct {
	*rand.Rand
	p ssa.Prog
}

func made(seed int64) (ssa.Prog, []map[int]bool) {
	m := &maker{Rand: rand.New(rand.NewSource(seed))}
	holds := []ast.Hold{ast.Own, ast.Own, ast.Open, ast.Open, ast.Closed}
	for size := range 2 + m.Intn(5) {
		m.p.Arrays = append(m.p.Arrays, ssa.Array{Hold: holds[m.Intn(5)], Size: size % 2 * (1 + m.Intn(4))})
	}
	for range 1 + m.Intn(5) {
		f := ssa.Func{Blocks: make([]ssa.Block, 1+m.Intn(6))}
		f.Blocks[0].Params = make([]int, m.Intn(4))
		m.p.Funcs = append(m.p.Funcs, f)
	}
	m.p.Main = m.Intn(len(m.p.Funcs))
	m.p.Funcs[m.p.Main].Blocks[0].Params = nil
	ops := m.ops()
	for _, f := range m.p.Funcs {
		m.values(f, ops)
		m.ways(f)
		for b := range f.Blocks {
			m.uses(f, b)
		}
	}
	return m.p, m.cut()
}

// ops is those that a program has: many have few Sets and Stores.
func (m *maker) ops() []ssa.Op {
	ops := []ssa.Op{ssa.Const, ssa.Bin, ssa.Bin, ssa.Bin, ssa.Get, ssa.Get, ssa.Load, ssa.Call, ssa.Call}
	for range m.Intn(4) {
		ops = append(ops, ssa.Set)
	}
	for range m.Intn(4) - 1 {
		ops = append(ops, ssa.Store)
	}
	return ops
}

// values lays the instructions, and gives each value its number, some of which are great. Each function begins with a Const, so that there is always a value.
func (m *maker) values(f ssa.Func, ops []ssa.Op) {
	numbers := m.Perm(80)
	next := func() int {
		v := numbers[0] + 1
		numbers = numbers[1:]
		if v%7 == 0 {
			v <<= 40
		}
		return v
	}
	for b := range f.Blocks {
		block := &f.Blocks[b]
		if b > 0 {
			block.Params = make([]int, m.Intn(3))
		} else {
			block.Ins = []ssa.Ins{{Op: ssa.Const}}
		}
		for k := range block.Params {
			block.Params[k] = next()
		}
		for range m.Intn(6) {
			block.Ins = append(block.Ins, m.instruction(ops[m.Intn(len(ops))]))
		}
		for k := range block.Ins {
			if i := &block.Ins[k]; i.Op != ssa.Set && i.Op != ssa.Store {
				i.Dst = next()
			}
		}
	}
}

func (m *maker) instruction(o ssa.Op) ssa.Ins {
	i := ssa.Ins{Op: o}
	switch o {
	case ssa.Bin:
		i.Bin = []word.Op{word.Add, word.Xor, word.Lt, word.Div, word.Mod}[m.Intn(5)]
		i.Args = make([]int, 2)
	case ssa.Get, ssa.Set:
		i.Arr = m.Intn((len(m.p.Arrays)+1)/2) * 2
		i.Args = make([]int, o-ssa.Get)
	case ssa.Load, ssa.Store:
		i.Arr = m.Intn(len(m.p.Arrays)/2)*2 + 1
		i.Args = make([]int, 1+(o-ssa.Load))
	case ssa.Call:
		i.Fn = m.Intn(len(m.p.Funcs))
		i.Args = make([]int, len(m.p.Funcs[i.Fn].Blocks[0].Params))
	}
	return i
}

func (m *maker) ways(f ssa.Func) {
	for b := range f.Blocks {
		e := &f.Blocks[b].End
		e.Kind = []ssa.Ends{ssa.Jump, ssa.Jump, ssa.Branch, ssa.Branch, ssa.Return, ssa.Trap}[m.Intn(6)]
		if e.Kind > ssa.Branch && b < 2 {
			e.Kind = ssa.Branch
		}
		if len(f.Blocks) == 1 {
			e.Kind = ssa.Return
		}
		if e.Kind == ssa.Trap {
			e.Trap = api.Zero
		}
		for range map[ssa.Ends]int{ssa.Jump: 1, ssa.Branch: 2}[e.Kind] {
			w := ssa.Edge{To: 1 + m.Intn(len(f.Blocks)-1)}
			w.Args = make([]int, len(f.Blocks[w.To].Params))
			e.Ways = append(e.Ways, w)
		}
	}
}

// comes tells which blocks are come to without going through that one.
func comes(f ssa.Func, without int) []bool {
	met := make([]bool, len(f.Blocks))
	var from func(b int)
	from = func(b int) {
		if b == without || met[b] {
			return
		}
		met[b] = true
		for _, w := range f.Blocks[b].End.Ways {
			from(w.To)
		}
	}
	from(0)
	return met
}

// ahead is the values that are made ahead of a place, however it is come to; where nothing comes it is those of the whole function.
func ahead(f ssa.Func, b, at int) []int {
	var out []int
	for other, block := range f.Blocks {
		until := len(block.Ins)
		if other == b && comes(f, -1)[b] {
			until = at
		} else if comes(f, other)[b] {
			continue
		}
		out = append(out, block.Params...)
		for _, i := range block.Ins[:until] {
			if i.Dst != 0 {
				out = append(out, i.Dst)
			}
		}
	}
	return out
}

func (m *maker) uses(f ssa.Func, b int) {
	block := &f.Blocks[b]
	fill := func(at int, args []int) {
		some := ahead(f, b, at)
		for k := range args {
			args[k] = some[m.Intn(len(some))]
			if m.Intn(2) == 0 { // one that is made lately
				args[k] = some[max(0, len(some)-1-m.Intn(3))]
			}
		}
	}
	for at, i := range block.Ins {
		if b > 0 || at > 0 {
			fill(at, i.Args)
		}
	}
	if block.End.Kind == ssa.Branch || block.End.Kind == ssa.Return {
		val := []int{0}
		fill(len(block.Ins), val)
		block.End.Val = val[0]
	}
	for _, w := range block.End.Ways {
		fill(len(block.Ins), w.Args)
	}
}

// cut is mostly of a few values of each function.
func (m *maker) cut() []map[int]bool {
	if m.Intn(4) == 0 {
		return nil
	}
	out := make([]map[int]bool, m.Intn(len(m.p.Funcs)+2))
	for fn := range out {
		if m.Intn(5) == 0 {
			continue
		}
		out[fn] = map[int]bool{-1: true, 0: true, m.Intn(80): m.Intn(2) == 0}
		if fn < len(m.p.Funcs) {
			for _, b := range m.p.Funcs[fn].Blocks {
				for _, v := range b.Params {
					out[fn][v] = m.Intn(4) == 0
				}
				for _, i := range b.Ins {
					if m.Intn(2) == 0 {
						out[fn][i.Dst] = m.Intn(4) > 0
					}
				}
			}
		}
	}
	return out
}

func stays(l api.Label) api.Label {
	if l == api.Secret {
		return l
	}
	return api.Public
}

// reading is the chapter's sentences, one by one, which are gone through again and again, as long as one of them asks for more.
type reading struct {
	p    ssa.Prog
	cut  []map[int]bool
	l    taint.Labels
	rose bool
}

func (r *reading) up(old *api.Label, l api.Label) {
	if l > *old {
		*old, r.rose = l, true
	}
}

func (r *reading) value(fn, v int, l api.Label) {
	if fn < len(r.cut) && r.cut[fn][v] {
		l = stays(l)
	}
	old := r.l.Vals[fn][v]
	r.up(&old, l)
	if old > api.Public {
		r.l.Vals[fn][v] = old
	}
}

func (r *reading) instruction(fn int, i ssa.Ins) {
	vals, label := r.l.Vals[fn], api.Public
	for _, v := range i.Args {
		label = max(label, vals[v])
	}
	switch i.Op {
	case ssa.Bin:
		r.value(fn, i.Dst, label)
	case ssa.Get:
		r.value(fn, i.Dst, r.l.Arrays[i.Arr])
		if turned(r.p, i.Arr) {
			r.value(fn, i.Dst, api.Transient)
		}
	case ssa.Load:
		r.value(fn, i.Dst, max(label, r.l.Arrays[i.Arr], api.Transient))
	case ssa.Set, ssa.Store:
		r.up(&r.l.Arrays[i.Arr], stays(vals[i.Args[len(i.Args)-1]]))
	case ssa.Call:
		for k, v := range r.p.Funcs[i.Fn].Params() {
			r.value(i.Fn, v, stays(vals[i.Args[k]]))
		}
		r.value(fn, i.Dst, r.l.Rets[i.Fn])
	}
}

func turned(p ssa.Prog, arr int) bool {
	for _, f := range p.Funcs {
		for _, b := range f.Blocks {
			if slices.ContainsFunc(b.Ins, func(i ssa.Ins) bool { return i.Op == ssa.Store || i.Op == ssa.Set && i.Arr == arr }) {
				return true
			}
		}
	}
	return false
}

func expected(p ssa.Prog, cut []map[int]bool) taint.Labels {
	r := &reading{p: p, cut: cut, rose: true}
	r.l = taint.Labels{Arrays: make([]api.Label, len(p.Arrays)), Rets: make([]api.Label, len(p.Funcs))}
	for range p.Funcs {
		r.l.Vals = append(r.l.Vals, map[int]api.Label{})
	}
	for a, array := range p.Arrays {
		r.l.Arrays[a] = map[ast.Hold]api.Label{ast.Closed: api.Secret}[array.Hold]
	}
	for r.rose {
		r.rose = false
		for fn, f := range p.Funcs {
			for b, can := range comes(f, -1) {
				if !can {
					continue
				}
				for _, i := range f.Blocks[b].Ins {
					r.instruction(fn, i)
				}
				end := f.Blocks[b].End
				for _, w := range end.Ways {
					for k, v := range f.Blocks[w.To].Params {
						r.value(fn, v, r.l.Vals[fn][w.Args[k]])
					}
				}
				if end.Kind == ssa.Return {
					r.up(&r.l.Rets[fn], stays(r.l.Vals[fn][end.Val]))
				}
			}
		}
	}
	return r.l
}

// expectedSinks goes through all that becomes known, whatever it is, and then leaves out what is public.
func expectedSinks(p ssa.Prog, l taint.Labels) []taint.Sink {
	var out []taint.Sink
	for fn, f := range p.Funcs {
		for b, block := range f.Blocks {
			for at, i := range block.Ins {
				if i.Op == ssa.Load || i.Op == ssa.Store || i.Op == ssa.Bin && i.Bin.Divides() {
					out = append(out, taint.Sink{Fn: fn, Block: b, At: at, Val: i.Args[0]})
				}
				if i.Op == ssa.Bin && i.Bin.Divides() {
					out = append(out, taint.Sink{Fn: fn, Block: b, At: at, Val: i.Args[1]})
				}
			}
			if block.End.Kind == ssa.Branch {
				out = append(out, taint.Sink{Fn: fn, Block: b, At: len(block.Ins), Val: block.End.Val})
			}
		}
	}
	for k := range out {
		out[k].Label = l.Vals[out[k].Fn][out[k].Val]
	}
	return slices.DeleteFunc(out, func(s taint.Sink) bool { return s.Label == api.Public })
}

func TestMadePrograms(t *testing.T) {
	counts := map[string]int{}
	for seed := range int64(8000) {
		p, cut := made(seed)
		got, want := labels(t, p, cut), expected(p, cut)
		if told(got) != told(want) {
			t.Fatalf("seed %d: %s, not %s: of %+v cut %v", seed, told(got), told(want), p, cut)
		}
		sinks := taint.Sinks(p, got)
		if wanted := expectedSinks(p, got); !slices.Equal(sinks, wanted) {
			t.Fatalf("seed %d: %v, not %v: of %+v cut %v", seed, sinks, wanted, p, cut)
		}
		for fn := range p.Funcs {
			for _, l := range slices.Collect(maps.Values(got.Vals[fn])) {
				counts[fmt.Sprint("values ", letter[l])]++
			}
			counts["returns "+letter[got.Rets[fn]]]++
		}
		for a := range p.Arrays {
			counts[fmt.Sprint("arrays ", p.Arrays[a].Hold, letter[got.Arrays[a]])]++
		}
		for _, s := range sinks {
			counts["sinks "+letter[s.Label]]++
		}
		if cut != nil && told(got) != told(labels(t, p, nil)) {
			counts["another by a cut"]++
		}
	}
	for _, what := range []string{"values t", "values s", "returns s", "returns -", "arrays 0s", "arrays 0-", "arrays 1s", "arrays 1-", "arrays 2s", "sinks t", "sinks s", "another by a cut"} {
		if counts[what] < 500 {
			t.Error("too few of", what, counts)
		}
	}
	t.Log(counts)
}
