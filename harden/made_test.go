package harden_test

import (
	"fmt"
	"math/rand"
	"slices"
	"testing"

	"palings/api"
	"palings/ast"
	"palings/cut"
	"palings/harden"
	"palings/ssa"
	"palings/taint"
	"palings/word"
)

// maker makes programs that are right, of few arrays and functions, so that much comes to each.
type maker struct {
	*rand.Rand
	p ssa.Prog
}

func made(seed int64) ssa.Prog {
	m := &maker{Rand: rand.New(rand.NewSource(seed))}
	isClosed := m.Intn(3) > 0
	for size := range 2 + m.Intn(5) {
		a := ssa.Array{Hold: []ast.Hold{ast.Own, ast.Open}[m.Intn(2)], Size: size % 2 * (1 + m.Intn(4))}
		if isClosed && m.Intn(5) == 0 {
			a.Hold = ast.Closed
		}
		m.p.Arrays = append(m.p.Arrays, a)
	}
	for range 1 + m.Intn(4) {
		f := ssa.Func{Blocks: make([]ssa.Block, 1+m.Intn(9))}
		f.Blocks[0].Params = make([]int, m.Intn(4))
		m.p.Funcs = append(m.p.Funcs, f)
	}
	m.p.Main = m.Intn(len(m.p.Funcs))
	m.p.Funcs[m.p.Main].Blocks[0].Params = nil
	ops := m.ops()
	for _, f := range m.p.Funcs {
		m.values(f, ops)
		m.ways(f)
		for b := range f.Blocks {
			m.uses(f, b)
		}
	}
	return m.p
}

// ops is those that a program has: some have no Set, some no Store.
func (m *maker) ops() []ssa.Op {
	ops := []ssa.Op{ssa.Const, ssa.Bin, ssa.Bin, ssa.Bin, ssa.Get, ssa.Load, ssa.Load, ssa.Call}
	for range m.Intn(3) {
		ops = append(ops, ssa.Set)
	}
	for range m.Intn(3) {
		ops = append(ops, ssa.Store)
	}
	return ops
}

// values lays the instructions, and gives each value its number, some of which are great. Each function begins with a Const, so that there is always a value.
func (m *maker) values(f ssa.Func, ops []ssa.Op) {
	numbers := m.Perm(80)
	next := func() int {
		v := numbers[0] + 1
		numbers = numbers[1:]
		if v%7 == 0 {
			v <<= 40
		}
		return v
	}
	most := 2 + m.Intn(4)
	for b := range f.Blocks {
		block := &f.Blocks[b]
		if b > 0 {
			block.Params = make([]int, m.Intn(3))
		} else {
			block.Ins = []ssa.Ins{{Op: ssa.Const}}
		}
		for k := range block.Params {
			block.Params[k] = next()
		}
		for range m.Intn(most) {
			block.Ins = append(block.Ins, m.instruction(ops[m.Intn(len(ops))]))
		}
		for k := range block.Ins {
			if i := &block.Ins[k]; i.Op != ssa.Set && i.Op != ssa.Store {
				i.Dst = next()
			}
		}
	}
}

func (m *maker) instruction(o ssa.Op) ssa.Ins {
	i := ssa.Ins{Op: o}
	switch o {
	case ssa.Bin:
		i.Bin = []word.Op{word.Add, word.Xor, word.Lt, word.Div, word.Mod}[m.Intn(5)]
		i.Args = make([]int, 2)
	case ssa.Get, ssa.Set:
		i.Arr = m.Intn((len(m.p.Arrays)+1)/2) * 2
		i.Args = make([]int, o-ssa.Get)
	case ssa.Load, ssa.Store:
		i.Arr = m.Intn(len(m.p.Arrays)/2)*2 + 1
		i.Args = make([]int, 1+(o-ssa.Load))
	case ssa.Call:
		i.Fn = m.Intn(len(m.p.Funcs))
		i.Args = make([]int, len(m.p.Funcs[i.Fn].Blocks[0].Params))
	}
	return i
}

// ways often go to the next block, or back, so that there are loops within loops.
func (m *maker) ways(f ssa.Func) {
	nested := m.Intn(2) == 0
	for b := range f.Blocks {
		e := &f.Blocks[b].End
		e.Kind = []ssa.Ends{ssa.Jump, ssa.Jump, ssa.Branch, ssa.Branch, ssa.Return, ssa.Trap}[m.Intn(6)]
		if e.Kind > ssa.Branch && b < 2 || nested && b < len(f.Blocks)-1 {
			e.Kind = ssa.Branch
		}
		if len(f.Blocks) == 1 {
			e.Kind = ssa.Return
		}
		if e.Kind == ssa.Trap {
			e.Trap = api.Zero
		}
		for range map[ssa.Ends]int{ssa.Jump: 1, ssa.Branch: 2}[e.Kind] {
			w := ssa.Edge{To: 1 + m.Intn(len(f.Blocks)-1)}
			if nested {
				w.To = min(b+1, len(f.Blocks)-1)
				if len(e.Ways) > 0 {
					w.To = 1 + m.Intn(w.To)
				}
			}
			w.Args = make([]int, len(f.Blocks[w.To].Params))
			e.Ways = append(e.Ways, w)
		}
	}
}

// comes tells which blocks are come to without going through that one.
func comes(f ssa.Func, without int) []bool {
	met := make([]bool, len(f.Blocks))
	var from func(b int)
	from = func(b int) {
		if b == without || met[b] {
			return
		}
		met[b] = true
		for _, w := range f.Blocks[b].End.Ways {
			from(w.To)
		}
	}
	from(0)
	return met
}

// ahead is the values that are made ahead of a place, however it is come to; where nothing comes it is those of the whole function.
func ahead(f ssa.Func, b, at int) []int {
	var out []int
	for other, block := range f.Blocks {
		until := len(block.Ins)
		if other == b && comes(f, -1)[b] {
			until = at
		} else if comes(f, other)[b] {
			continue
		}
		out = append(out, block.Params...)
		for _, i := range block.Ins[:until] {
			if i.Dst != 0 {
				out = append(out, i.Dst)
			}
		}
	}
	return out
}

func (m *maker) uses(f ssa.Func, b int) {
	block := &f.Blocks[b]
	fill := func(at int, args []int) {
		some := ahead(f, b, at)
		for k := range args {
			args[k] = some[m.Intn(len(some))]
			if m.Intn(2) == 0 { // one that is made lately
				args[k] = some[max(0, len(some)-1-m.Intn(3))]
			}
		}
	}
	for at, i := range block.Ins {
		if b > 0 || at > 0 {
			fill(at, i.Args)
		}
	}
	if block.End.Kind == ssa.Branch || block.End.Kind == ssa.Return {
		val := []int{0}
		fill(len(block.Ins), val)
		block.End.Val = val[0]
	}
	for _, w := range block.End.Ways {
		fill(len(block.Ins), w.Args)
	}
}

// loops is in how many loops each block is, by the sentences of layer 11: of a way back to its top, what comes to its beginning without going through the top.
func loops(f ssa.Func) []int {
	tops := make([]map[int]bool, len(f.Blocks))
	for b := range tops {
		tops[b] = map[int]bool{}
	}
	can := comes(f, -1)
	for from, block := range f.Blocks {
		for _, w := range block.End.Ways {
			if !can[from] || from != w.To && comes(f, w.To)[from] {
				continue
			}
			tops[w.To][w.To] = true
			for b := range f.Blocks {
				if can[b] && b != w.To && leads(f, b, from, w.To) {
					tops[b][w.To] = true
				}
			}
		}
	}
	var out []int
	for _, t := range tops {
		out = append(out, len(t))
	}
	return out
}

// leads tells whether one block comes to another one without going through a third one.
func leads(f ssa.Func, from, to, without int) bool {
	met := make([]bool, len(f.Blocks))
	var step func(b int) bool
	step = func(b int) bool {
		if b == without || met[b] {
			return false
		}
		met[b] = true
		return b == to || slices.ContainsFunc(f.Blocks[b].End.Ways, func(w ssa.Edge) bool { return step(w.To) })
	}
	return step(from)
}

// expectedNet is the sentences of P14.1, one by one: each value is held against each other one.
func expectedNet(p ssa.Prog, l taint.Labels, fn int) (cut.Net, []int) {
	f, depths := p.Funcs[fn], loops(p.Funcs[fn])
	n, values := cut.Net{}, []int{}
	for b, can := range comes(f, -1) {
		made := slices.Clone(f.Blocks[b].Params)
		for _, i := range f.Blocks[b].Ins {
			if i.Dst > 0 {
				made = append(made, i.Dst)
			}
		}
		for _, v := range made {
			if can && l.Vals[fn][v] == api.Transient {
				values = append(values, v)
				n.Weights = append(n.Weights, []int64{1, 10, 100, 1000, 10000, 10000, 10000, 10000, 10000}[depths[b]])
			}
		}
	}
	for a, v := range values {
		for b, w := range values {
			if comesFrom(f, v, w) {
				n.Ways = append(n.Ways, [2]int{a, b})
			}
		}
		if isOfMemory(p, f, v) {
			n.From = append(n.From, a)
		}
		if slices.ContainsFunc(taint.Sinks(p, l), func(s taint.Sink) bool { return s.Fn == fn && s.Val == v }) {
			n.To = append(n.To, a)
		}
	}
	return n, values
}

// comesFrom tells whether an instruction makes w of v, or w is a parameter that is v on a way.
func comesFrom(f ssa.Func, v, w int) bool {
	for _, b := range f.Blocks {
		for _, i := range b.Ins {
			if i.Dst == w && slices.Contains(i.Args, v) {
				return true
			}
		}
		for _, way := range b.End.Ways {
			for k, param := range f.Blocks[way.To].Params {
				if param == w && way.Args[k] == v {
					return true
				}
			}
		}
	}
	return false
}

func isOfMemory(p ssa.Prog, f ssa.Func, v int) bool {
	for _, b := range f.Blocks {
		for _, i := range b.Ins {
			if i.Dst == v && (i.Op == ssa.Load || i.Op == ssa.Get && taint.Writes(p)[i.Arr]) {
				return true
			}
		}
	}
	return false
}

// flowing tells which places are come to from a beginning, and of which of them more than the beginning: those of a list let nothing through.
func flowing(n cut.Net, isCut func(place int) bool) (met, behind []bool) {
	met, behind = make([]bool, len(n.Weights)), make([]bool, len(n.Weights))
	var from func(place int)
	from = func(place int) {
		if met[place] {
			return
		}
		met[place] = true
		if isCut(place) {
			return
		}
		behind[place] = true
		for _, w := range n.Ways {
			if w[0] == place {
				from(w[1])
			}
		}
	}
	for _, place := range n.From {
		from(place)
	}
	return met, behind
}

// within tells whether a set is within another one.
func within(a, b []bool) bool {
	for k := range a {
		if a[k] && !b[k] {
			return false
		}
	}
	return true
}

// nearest tries all choices of places: of those that cut, and of these the lightest ones, it is the one by which the least is come to.
func nearest(n cut.Net) ([]int, int64) {
	var best []int
	var bestMet, bestBehind []bool
	bestWeight := int64(-1)
	for mask := range 1 << len(n.Weights) {
		var places []int
		weight := int64(0)
		for place, w := range n.Weights {
			if mask>>place&1 == 1 {
				places = append(places, place)
				weight += w
			}
		}
		if bestWeight >= 0 && weight > bestWeight {
			continue
		}
		met, behind := flowing(n, func(place int) bool { return mask>>place&1 == 1 })
		if slices.ContainsFunc(n.To, func(place int) bool { return behind[place] }) {
			continue
		}
		if bestWeight < 0 || weight < bestWeight || within(met, bestMet) && within(behind, bestBehind) {
			best, bestWeight, bestMet, bestBehind = places, weight, met, behind
		}
	}
	return best, bestWeight
}

const fewPlaces = 11

// sameCut holds what is cut of a function against all choices, if its places are few, else against layer 13's, and tells its weight.
func sameCut(t *testing.T, what string, n cut.Net, values []int, h harden.Plan, fn int) int64 {
	t.Helper()
	var want []int
	weight := int64(0)
	if len(n.Weights) <= fewPlaces {
		want, weight = nearest(n)
	} else {
		want, _ = cut.Least(n)
		weight = n.Weight(want)
	}
	var wanted []int
	for _, place := range want {
		wanted = append(wanted, values[place])
	}
	slices.Sort(wanted)
	if got := h.Values(fn); !slices.Equal(got, wanted) {
		t.Fatalf("%s: function %d: %v is cut, not %v, of %s", what, fn, got, wanted, told(n, values))
	}
	return weight
}

func TestMadePrograms(t *testing.T) {
	counts := map[string]int{}
	for seed := range int64(6000) {
		what, p := fmt.Sprint("seed ", seed), made(seed)
		l, e := taint.Of(p, nil)
		if e != api.OK {
			t.Fatal(what, e)
		}
		h := plan(t, p)
		sinksAreGuarded(t, what, p, h)
		weight := int64(0)
		for fn := range p.Funcs {
			got, of := net(t, p, fn)
			n, values := expectedNet(p, l, fn)
			if told(got, of) != told(n, values) {
				t.Fatalf("%s: function %d: %q, not %q: of %+v", what, fn, told(got, of), told(n, values), p)
			}
			weight += sameCut(t, what, n, values, h, fn)
			count(counts, n, h.Values(fn))
		}
		if h.Weight != weight {
			t.Fatal(what, h.Weight, weight)
		}
		counts["guards"] += len(h.Guards)
		hasClosed := slices.ContainsFunc(p.Arrays, func(a ssa.Array) bool { return a.Hold == ast.Closed })
		if !hasClosed && len(h.Guards) > 0 {
			t.Fatal(what, h.Guards)
		}
		if sinks := taint.Sinks(p, l); len(sinks) == 0 {
			counts["nothing becomes known"]++
			if h.Fences() > 0 || h.Weight != 0 {
				t.Fatal(what, h)
			}
		}
	}
	for _, what := range []string{"small", "great", "weight 1", "weight 10", "weight 100", "weight 1000", "weight 10000", "of 1", "of 2", "of 3", "a cut that begins nowhere", "guards", "nothing becomes known"} {
		if counts[what] < 200 {
			t.Error("too few of", what, counts)
		}
	}
	t.Log(counts)
}

// count counts what nets were tried.
func count(counts map[string]int, n cut.Net, values []int) {
	counts[map[bool]string{true: "small", false: "great"}[len(n.Weights) <= fewPlaces]]++
	for _, w := range n.Weights {
		counts[fmt.Sprint("weight ", w)]++
	}
	counts[fmt.Sprint("of ", len(values))]++
	if least, _ := cut.Least(n); slices.ContainsFunc(least, func(place int) bool { return !slices.Contains(n.From, place) }) {
		counts["a cut that begins nowhere"]++
	}
}
