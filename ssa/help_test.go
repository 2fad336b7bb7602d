package ssa_test

import (
	"testing"

	"palings/api"
	"palings/ast"
	"palings/ssa"
	"palings/word"
)

func num(dst int, n int64) ssa.Ins { return ssa.Ins{Op: ssa.Const, Dst: dst, Num: n} }

func bin(dst int, o word.Op, a, b int) ssa.Ins {
	return ssa.Ins{Op: ssa.Bin, Bin: o, Dst: dst, Args: []int{a, b}}
}

func get(dst, arr int) ssa.Ins { return ssa.Ins{Op: ssa.Get, Dst: dst, Arr: arr} }

func set(arr, v int) ssa.Ins { return ssa.Ins{Op: ssa.Set, Arr: arr, Args: []int{v}} }

func load(dst, arr, i int) ssa.Ins {
	return ssa.Ins{Op: ssa.Load, Dst: dst, Arr: arr, Args: []int{i}}
}

func store(arr, i, v int) ssa.Ins { return ssa.Ins{Op: ssa.Store, Arr: arr, Args: []int{i, v}} }

func call(dst, fn int, args ...int) ssa.Ins {
	return ssa.Ins{Op: ssa.Call, Dst: dst, Fn: fn, Args: args}
}

func to(b int, args ...int) ssa.Edge { return ssa.Edge{To: b, Args: args} }

func jump(w ssa.Edge) ssa.End { return ssa.End{Kind: ssa.Jump, Ways: []ssa.Edge{w}} }

func branch(v int, yes, no ssa.Edge) ssa.End {
	return ssa.End{Kind: ssa.Branch, Val: v, Ways: []ssa.Edge{yes, no}}
}

func ret(v int) ssa.End { return ssa.End{Kind: ssa.Return, Val: v} }

func trap(t api.Trap) ssa.End { return ssa.End{Kind: ssa.Trap, Trap: t} }

func params(v ...int) []int { return v }

func block(params []int, end ssa.End, ins ...ssa.Ins) ssa.Block {
	return ssa.Block{Params: params, Ins: ins, End: end}
}

func fn(name string, blocks ...ssa.Block) ssa.Func { return ssa.Func{Name: name, Blocks: blocks} }

// around is a program of that function alone, with a word and a list.
func around(blocks ...ssa.Block) ssa.Prog {
	return ssa.Prog{
		Arrays: []ssa.Array{{Name: "w"}, {Name: "h", Hold: ast.Open, Size: 3}},
		Funcs:  []ssa.Func{fn("main", blocks...)},
	}
}

// whole has each instruction and each end, a loop, a block that can't be come to, and a function with parameters.
func whole() ssa.Prog {
	p := around(
		block(nil, branch(5, to(1, 3), to(2, 1, 2)),
			num(1, 5), get(2, 0), bin(3, word.Add, 1, 2), set(0, 3), load(4, 1, 1), store(1, 1, 4), call(5, 1, 1, 2)),
		block(params(6), jump(to(3, 6))),
		block(params(7, 8), trap(api.Zero)),
		block(params(9), branch(9, to(3, 10), to(5)), bin(10, word.Sub, 9, 1)),
		block(params(11), jump(to(3, 12)), num(12, 7)),
		block(nil, ret(10)),
	)
	p.Funcs = append(p.Funcs, fn("f", block(params(1, 2), ret(2))))
	return p
}

func right(t *testing.T, what string, p ssa.Prog) {
	t.Helper()
	if e := p.Check(); e != api.OK {
		t.Errorf("%s: %d, but it is right", what, e)
	}
}

func wrong(t *testing.T, what string, p ssa.Prog) {
	t.Helper()
	if e := p.Check(); e != api.ErrBad {
		t.Errorf("%s: %d, but it is wrong", what, e)
	}
}
