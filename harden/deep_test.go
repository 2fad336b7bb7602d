package harden_test

import (
	"testing"

	"palings/api"
	"palings/ast"
	"palings/cut"
	"palings/harden"
	"palings/ssa"
	"palings/word"
)

const great = 1 << 16

func get(dst, arr int) ssa.Ins { return ssa.Ins{Op: ssa.Get, Dst: dst, Arr: arr} }

func load(dst, index int) ssa.Ins {
	return ssa.Ins{Op: ssa.Load, Dst: dst, Arr: openList, Args: []int{index}}
}

func bin(dst int, o word.Op, a, b int) ssa.Ins {
	return ssa.Ins{Op: ssa.Bin, Bin: o, Dst: dst, Args: []int{a, b}}
}

func ret(v int) ssa.End { return ssa.End{Kind: ssa.Return, Val: v} }

func jump(to int, args ...int) ssa.End {
	return ssa.End{Kind: ssa.Jump, Ways: []ssa.Edge{{To: to, Args: args}}}
}

func main(blocks ...ssa.Block) ssa.Prog {
	return ssa.Prog{Arrays: arrays(), Funcs: []ssa.Func{{Blocks: blocks}}}
}

// loads is a block with so many Loads, the last one by the one ahead of it.
func loads(count int) ssa.Block {
	b := ssa.Block{Ins: []ssa.Ins{get(1, open)}, End: ret(1)}
	for k := range count {
		b.Ins = append(b.Ins, load(k+2, 1))
	}
	b.Ins[count].Args[0] = count
	return b
}

func TestMostPlaces(t *testing.T) {
	p := main(loads(cut.MaxNodes))
	if got, want := fences(plan(t, p)), "2000 =1"; got != want {
		t.Errorf("%q, not %q", got, want)
	}
	// What is secret, what is public, and what is where nothing comes are no places.
	b := &p.Funcs[0].Blocks[0]
	for v := range 3 {
		b.Ins = append(b.Ins, get(3000+v, closed), get(4000+v, open), ssa.Ins{Op: ssa.Load, Dst: 5000 + v, Arr: closedList, Args: []int{1}})
	}
	p.Funcs[0].Blocks = append(p.Funcs[0].Blocks, ssa.Block{Params: []int{6000}, Ins: []ssa.Ins{load(6001, 1), load(6002, 6001)}, End: ret(1)})
	if got, want := fences(plan(t, p)), "2000 =1"; got != want {
		t.Errorf("%q, not %q", got, want)
	}
}

func TestTooManyPlaces(t *testing.T) {
	for _, count := range []int{cut.MaxNodes + 1, cut.MaxNodes + 2, 3 * cut.MaxNodes, great} {
		p := main(loads(count))
		noPlan(t, "too many", p, api.ErrSize)
		n, values := net(t, p, 0)
		if len(values) != count || values[0] != 2 || values[count-1] != count+1 || n.Right() {
			t.Error(count, len(values), n.Right())
		}
		if len(n.From) != count || len(n.Ways) != 1 || n.Ways[0] != [2]int{count - 2, count - 1} || len(n.To) != 1 || n.To[0] != count-2 {
			t.Error(count, len(n.From), n.Ways, n.To)
		}
	}
}

// Parameters and what a Bin makes are places, too; whether anything becomes known of them is all one.
func TestTooManyPlacesOfAnyKind(t *testing.T) {
	first := loads(cut.MaxNodes - 2)
	first.End = jump(1, 2)
	second := ssa.Block{Params: []int{3000}, Ins: []ssa.Ins{bin(3001, word.Add, 1, 3000)}, End: ret(1)}
	p := main(first, second)
	if got, want := fences(plan(t, p)), "1998 =1"; got != want {
		t.Errorf("%q, not %q", got, want)
	}
	p.Funcs[0].Blocks[1].Ins = append(second.Ins, bin(3002, word.Add, 3001, 1))
	noPlan(t, "a Bin too many", p, api.ErrSize)
}

func TestTooManyPlacesOfSomeFunction(t *testing.T) {
	small, most := ssa.Func{Blocks: []ssa.Block{loads(2)}}, ssa.Func{Blocks: []ssa.Block{loads(cut.MaxNodes)}}
	for at := range 3 {
		p := ssa.Prog{Arrays: arrays(), Funcs: []ssa.Func{most, most, small}}
		if got, want := fences(plan(t, p)), "2000|2000|2 =3"; got != want {
			t.Errorf("%q, not %q", got, want)
		}
		p.Funcs[at] = ssa.Func{Blocks: []ssa.Block{loads(cut.MaxNodes + 1)}}
		noPlan(t, "too many", p, api.ErrSize)
		p.Main = 3
		noPlan(t, "too many, and wrong", p, api.ErrBad)
	}
}

// Each of 2000 values comes to very many others, and each of them from very many.
func TestManyWays(t *testing.T) {
	const count = cut.MaxNodes / 2
	b := ssa.Block{Ins: []ssa.Ins{get(1, open)}}
	for v := 2; v < count+2; v++ {
		b.Ins = append(b.Ins, load(v, 1))
	}
	blocks := []ssa.Block{b}
	params := make([]int, count)
	for k := range params {
		params[k] = count + 2 + k
	}
	blocks = append(blocks, ssa.Block{Params: params, End: ssa.End{Kind: ssa.Branch, Val: params[count/2], Ways: []ssa.Edge{{To: 2}, {To: 2}}}}, ssa.Block{End: ret(1)})
	args := func(by int) []int {
		out := make([]int, count)
		for k := range out {
			out[k] = 2 + (k+by)%count
		}
		return out
	}
	blocks[0].End = ssa.End{Kind: ssa.Branch, Val: 1, Ways: []ssa.Edge{{To: 1, Args: args(0)}, {To: 3, Args: nil}}}
	for by := range 500 {
		last := ssa.End{Kind: ssa.Branch, Val: 1, Ways: []ssa.Edge{{To: 1, Args: args(by)}, {To: len(blocks) + 1}}}
		if by == 499 {
			last.Ways[1].To = 2
		}
		blocks = append(blocks, ssa.Block{End: last})
	}
	p := main(blocks...)
	h := plan(t, p)
	if got := h.Values(0); len(got) != 1 || got[0] != params[count/2] || h.Weight != 1 {
		t.Error(got, h.Weight)
	}
	if n, _ := net(t, p, 0); len(n.Ways) != count*500 {
		t.Error(len(n.Ways))
	}
}

// Blocks in a chain, each with a Load by what it is handed, and in the midst a loop of many blocks.
func TestManyBlocks(t *testing.T) {
	blocks := []ssa.Block{{Ins: []ssa.Ins{get(1, open), load(2, 1)}, End: jump(1, 2)}}
	for b := 1; b < great; b++ {
		end := jump(b+1, b+2)
		switch {
		case b == great-1:
			end = ret(1)
		case b >= cut.MaxNodes-3:
			end = jump(b + 1)
		}
		block := ssa.Block{End: end}
		if b < cut.MaxNodes-2 {
			block.Params = []int{b + 2}
		}
		blocks = append(blocks, block)
	}
	last := &blocks[great-2]
	last.Ins = []ssa.Ins{load(great, cut.MaxNodes-1)}
	last.End = ssa.End{Kind: ssa.Branch, Val: 1, Ways: []ssa.Edge{{To: great / 2}, {To: great - 1}}}
	p := main(blocks...)
	n, values := net(t, p, 0)
	if count := len(values); count != cut.MaxNodes-1 || n.Weights[count-1] != 10 || n.Weights[count-2] != 1 || len(n.Ways) != count-1 {
		t.Error(count, len(n.Ways))
	}
	if got, want := fences(plan(t, p)), "2 =1"; got != want {
		t.Errorf("%q, not %q", got, want)
	}
}

// Of very many functions each has hazards of its own.
func TestManyFunctions(t *testing.T) {
	p := ssa.Prog{Arrays: []ssa.Array{{Size: 1}, {Size: 1}, {Size: 1, Hold: ast.Closed}, {Size: 1}, {Size: 1}}}
	for fn := range great {
		b := ssa.Block{Ins: []ssa.Ins{{Op: ssa.Const, Dst: 1}, load(2, 1), load(3, 2), load(4, 3)}, End: ret(2)}
		if fn%2 == 1 {
			b.Ins = append(b.Ins, ssa.Ins{Op: ssa.Load, Dst: 5, Arr: 2, Args: []int{1}}, load(6, 5))
		}
		p.Funcs = append(p.Funcs, ssa.Func{Blocks: []ssa.Block{b}})
	}
	h, e := harden.Of(p)
	if e != api.OK || h.Weight != 2*great || h.Fences() != 2*great+great/2 || len(h.Guards) != great/2 {
		t.Fatal(e, h.Weight, h.Fences())
	}
	for fn := range great {
		if got := h.Values(fn); len(got) != 2 || got[0] != 2 || got[1] != 3 {
			t.Fatal(fn, got)
		}
	}
	for k, g := range h.Guards {
		if g != (harden.Place{Fn: 2*k + 1, At: 5}) {
			t.Fatal(k, g)
		}
	}
}

// One value becomes known very often, and one comes to very many, which are cut by one fence.
func TestManyUses(t *testing.T) {
	b := ssa.Block{Ins: []ssa.Ins{get(1, open), load(2, 1), get(3, closed)}, End: ret(2)}
	for v := range great {
		b.Ins = append(b.Ins, bin(v+4, word.Div, 3, 2))
	}
	p := main(b)
	h, e := harden.Of(p)
	if e != api.OK || h.Weight != 1 || len(h.Guards) != great || h.Guards[0].At != 3 || h.Guards[great-1].At != great+2 {
		t.Fatal(e, h.Weight, len(h.Guards))
	}
}
