package taint_test

import (
	"testing"

	"palings/api"
	"palings/ast"
	"palings/ssa"
	"palings/taint"
	"palings/word"
)

const great = 1 << 16

func get(dst, arr int) ssa.Ins { return ssa.Ins{Op: ssa.Get, Dst: dst, Arr: arr} }

func set(arr, v int) ssa.Ins { return ssa.Ins{Op: ssa.Set, Arr: arr, Args: []int{v}} }

func bin(dst int, o word.Op, a, b int) ssa.Ins {
	return ssa.Ins{Op: ssa.Bin, Bin: o, Dst: dst, Args: []int{a, b}}
}

func call(dst, fn int, args ...int) ssa.Ins {
	return ssa.Ins{Op: ssa.Call, Dst: dst, Fn: fn, Args: args}
}

func ret(v int) ssa.End { return ssa.End{Kind: ssa.Return, Val: v} }

func jump(to int, args ...int) ssa.End {
	return ssa.End{Kind: ssa.Jump, Ways: []ssa.Edge{{To: to, Args: args}}}
}

func main(blocks ...ssa.Block) ssa.Prog {
	return ssa.Prog{Arrays: arrays(), Funcs: []ssa.Func{{Blocks: blocks}}}
}

// of is what Of tells of a program that is too great to be written out.
func of(t *testing.T, p ssa.Prog, cut []map[int]bool) taint.Labels {
	t.Helper()
	l, e := taint.Of(p, cut)
	if e != api.OK {
		t.Fatal(e)
	}
	return l
}

func TestManyValues(t *testing.T) {
	b := ssa.Block{Ins: []ssa.Ins{get(1, open), {Op: ssa.Load, Dst: 2, Arr: openList, Args: []int{1}}}, End: ret(great)}
	for v := 3; v <= great; v++ {
		b.Ins = append(b.Ins, bin(v, word.Div, v-1, 1))
	}
	p := main(b)
	l := of(t, p, []map[int]bool{{great / 2: true}})
	for v := 1; v <= great; v++ {
		want := api.Public
		if v >= 2 && v < great/2 {
			want = api.Transient
		}
		if l.Vals[0][v] != want {
			t.Fatal(v, l.Vals[0][v])
		}
	}
	if n := len(taint.Sinks(p, l)); n != great/2-2 {
		t.Error(n)
	}
	p.Funcs[0].Blocks[0].Ins[1] = get(2, closed)
	if n := len(taint.Sinks(p, of(t, p, nil))); n != great-2 {
		t.Error(n)
	}
}

// Each word becomes what the one behind it is, and only the last one is secret: to go through all again and again would take too long.
func TestManyWords(t *testing.T) {
	p := main(ssa.Block{End: ret(1)})
	p.Arrays = make([]ssa.Array, great)
	b := &p.Funcs[0].Blocks[0]
	for a := range great - 1 {
		b.Ins = append(b.Ins, get(a+1, a+1), set(a, a+1))
	}
	for _, hold := range []ast.Hold{ast.Open, ast.Closed} {
		p.Arrays[great-1].Hold = hold
		want := map[ast.Hold]api.Label{ast.Closed: api.Secret}[hold]
		l := of(t, p, nil)
		for a, got := range l.Arrays {
			if got != want {
				t.Fatal(a, got)
			}
		}
		if l.Rets[0] != want {
			t.Error(l.Rets)
		}
	}
}

// The first block goes to the last one, or to one in the midst, and each other one to that ahead of it.
func TestManyBlocks(t *testing.T) {
	p := main(ssa.Block{Ins: []ssa.Ins{get(1, open), get(2, closed)}, End: jump(great-1, 2)})
	for v := 3; v < great+2; v++ {
		p.Funcs[0].Blocks = append(p.Funcs[0].Blocks, ssa.Block{Params: []int{v}, End: jump(max(1, v-3), v)})
	}
	l := of(t, p, nil)
	for v := 2; v < great+2; v++ {
		if l.Vals[0][v] != api.Secret {
			t.Fatal(v, l.Vals[0][v])
		}
	}
	p.Funcs[0].Blocks[0].End = jump(great/2, 2)
	l = of(t, p, nil)
	for v := 3; v < great+2; v++ {
		if (l.Vals[0][v] == api.Secret) != (v < great/2+3) {
			t.Fatal(v, l.Vals[0][v])
		}
	}
}

// Each function calls the one behind it, and returns what that does.
func TestManyFunctions(t *testing.T) {
	p := main(ssa.Block{Ins: []ssa.Ins{get(1, closed), get(2, open), call(3, 1, 1, 2)}, End: ret(3)})
	for fn := 1; fn < great; fn++ {
		b := ssa.Block{Params: []int{1, 2}, Ins: []ssa.Ins{call(3, min(fn+1, great-1), 1, 2)}, End: ret(3)}
		if fn == great-1 {
			b.End = ret(1)
		}
		p.Funcs = append(p.Funcs, ssa.Func{Blocks: []ssa.Block{b}})
	}
	l := of(t, p, nil)
	for fn, got := range l.Rets {
		if got != api.Secret || l.Vals[fn][1] != api.Secret || l.Vals[fn][2] != api.Public || l.Vals[fn][3] != api.Secret {
			t.Fatal(fn, got, l.Vals[fn])
		}
	}
	p.Funcs[great-1].Blocks[0].End = ret(2)
	for fn, got := range of(t, p, nil).Rets {
		if got != api.Public {
			t.Fatal(fn, got)
		}
	}
}

// One word and one function, which very many ask and turn: from each to each other would be too many ways.
func TestManyUses(t *testing.T) {
	b := ssa.Block{Ins: []ssa.Ins{get(1, closed)}, End: ret(1)}
	for v := 2; v < great; v += 2 {
		b.Ins = append(b.Ins, get(v, own), set(own, v), call(v+1, 1, v, v))
	}
	b.Ins = append(b.Ins, set(own, 1))
	p := main(b)
	p.Funcs = append(p.Funcs, ssa.Func{Blocks: []ssa.Block{{Params: []int{1, 2}, End: ret(2)}}})
	l := of(t, p, nil)
	for v := 1; v < great; v++ {
		if l.Vals[0][v] != api.Secret {
			t.Fatal(v, l.Vals[0][v])
		}
	}
}
