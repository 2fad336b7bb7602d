package ssa_test

import (
	"fmt"
	"math"
	"testing"

	"palings/ast"
	"palings/ssa"
	"palings/word"
)

func TestWholeIsRight(t *testing.T) {
	right(t, "each instruction and each end", whole())
	right(t, "5, returned", around(block(nil, ret(1), num(1, 5))))
	wrong(t, "a value that isn't made, returned", around(block(nil, ret(1))))
}

func TestArrays(t *testing.T) {
	for size, ok := range map[int]bool{math.MinInt: false, -1: false, 0: true, 1: true, 4095: true, 4096: true, 4097: false, math.MaxInt: false} {
		for hold, known := range map[ast.Hold]bool{ast.Own: true, ast.Open: true, ast.Closed: true, -1: false, 3: false, math.MaxInt: false, math.MinInt: false} {
			for at := range 3 {
				p := whole()
				p.Arrays = append(p.Arrays, ssa.Array{}, ssa.Array{}, ssa.Array{})
				p.Arrays[2+at] = ssa.Array{Name: "spare", Hold: hold, Size: size}
				tell(ok && known)(t, fmt.Sprint("array ", size, hold), p)
			}
		}
	}
}

func tell(ok bool) func(*testing.T, string, ssa.Prog) {
	if ok {
		return right
	}
	return wrong
}

func TestManyArraysAndFunctions(t *testing.T) {
	p := whole()
	for range 1000 {
		p.Arrays = append(p.Arrays, ssa.Array{Name: "w"})
		p.Funcs = append(p.Funcs, p.Funcs[1])
	}
	right(t, "no names are asked for, nor how many there are", p)
}

func TestMain(t *testing.T) {
	for main, ok := range map[int]bool{math.MinInt: false, -1: false, 0: true, 1: false, 2: true, 3: false, math.MaxInt: false} {
		p := whole()
		p.Funcs = append(p.Funcs, fn("other", block(nil, ret(1), num(1, 1))))
		p.Main = main
		tell(ok)(t, fmt.Sprint("Main ", main), p)
	}
	wrong(t, "no function", ssa.Prog{})
	p := whole()
	p.Funcs[0].Blocks = nil
	wrong(t, "Main without a block", p)
	p = whole()
	p.Funcs = append(p.Funcs, fn("empty"))
	wrong(t, "another function without a block", p)
}

func TestParams(t *testing.T) {
	for n := range 9 {
		p := around(block(nil, ret(1), num(1, 5)))
		f := fn("f", block(nil, ret(100), num(100, 1)))
		for v := range n {
			f.Blocks[0].Params = append(f.Blocks[0].Params, v+1)
		}
		p.Funcs = append(p.Funcs, f)
		tell(n <= 6)(t, fmt.Sprint(n, " parameters"), p)
	}
	many := block(nil, ret(1))
	p := around(block(nil, jump(to(1)), num(1000, 5)), many)
	for v := range 40 {
		p.Funcs[0].Blocks[1].Params = append(p.Funcs[0].Blocks[1].Params, v+1)
		p.Funcs[0].Blocks[0].End.Ways[0].Args = append(p.Funcs[0].Blocks[0].End.Ways[0].Args, 1000)
	}
	right(t, "a block that isn't the first one may have more parameters", p)
}

func TestValues(t *testing.T) {
	for _, v := range []int{math.MinInt, -5, -1, 0} {
		wrong(t, "an instruction's value", around(block(nil, ret(1), num(1, 5), num(v, 5))))
		wrong(t, "a parameter", around(block(nil, jump(to(1, 1)), num(1, 5)), block(params(v), ret(1))))
		wrong(t, "a value where nothing comes", around(block(nil, ret(1), num(1, 5)), block(nil, ret(v), num(v, 1))))
		wrong(t, "a parameter where nothing comes", around(block(nil, ret(1), num(1, 5)), block(params(v), ret(1))))
		p := whole()
		p.Funcs[1].Blocks[0].Params[0] = v
		wrong(t, "a function's parameter", p)
	}
	right(t, "a great value", around(block(nil, ret(math.MaxInt), num(math.MaxInt, 5))))
	for what, p := range map[string]ssa.Prog{
		"two instructions":                      around(block(nil, ret(1), num(1, 5), num(1, 5))),
		"two instructions in two blocks":        around(block(nil, jump(to(1)), num(1, 5)), block(nil, ret(1), num(1, 5))),
		"in two blocks side by side":            around(block(nil, branch(1, to(1), to(2)), num(1, 5)), block(nil, ret(2), num(2, 5)), block(nil, ret(2), num(2, 5))),
		"an instruction and a parameter":        around(block(nil, jump(to(1, 1)), num(1, 5)), block(params(2), ret(2), num(2, 6))),
		"an instruction and another's one":      around(block(nil, jump(to(1, 1)), num(1, 5)), block(params(1), ret(1))),
		"two parameters of a block":             around(block(nil, jump(to(1, 1, 1)), num(1, 5)), block(params(2, 2), ret(2))),
		"two parameters in two blocks":          around(block(nil, branch(1, to(1, 1), to(2, 1)), num(1, 5)), block(params(2), ret(2)), block(params(2), ret(2))),
		"where nothing comes":                   around(block(nil, ret(1), num(1, 5)), block(nil, ret(2), num(2, 5), num(2, 5))),
		"where something comes, and nothing":    around(block(nil, ret(1), num(1, 5)), block(nil, ret(1), num(1, 5))),
		"a parameter where nothing comes":       around(block(nil, ret(1), num(1, 5)), block(params(1), ret(1))),
		"a call, and a load":                    around(block(nil, ret(1), num(1, 5), call(2, 0), load(2, 1, 1))),
		"a get, and a bin":                      around(block(nil, ret(1), num(1, 5), get(2, 0), bin(2, word.Add, 1, 1))),
		"a function's parameter, and a block's": withFunc(block(params(1), jump(to(1, 1))), block(params(1), ret(1))),
		"two of a function's parameters":        withFunc(block(params(1, 1), ret(1))),
		"its parameter, and an instruction":     withFunc(block(params(1), ret(1), num(1, 1))),
	} {
		wrong(t, "made twice: "+what, p)
	}
	right(t, "two functions may have the same values", withFunc(block(params(1), ret(1))))
}

func withFunc(blocks ...ssa.Block) ssa.Prog {
	p := around(block(nil, ret(1), num(1, 5)))
	p.Funcs = append(p.Funcs, fn("f", blocks...))
	return p
}

// Each instruction of whole, with other Args and another Dst.
func TestInstructions(t *testing.T) {
	for at, i := range whole().Funcs[0].Blocks[0].Ins {
		for n := range 4 {
			p := whole()
			p.Funcs[0].Blocks[0].Ins[at].Args = []int{1, 1, 1, 1}[:n]
			if at == 0 && n > 0 {
				p.Funcs[0].Blocks[0].Ins[at].Args = []int{20, 20, 20}[:n]
				p.Funcs[0].Blocks[0].Ins = append([]ssa.Ins{num(20, 1)}, p.Funcs[0].Blocks[0].Ins...)
			}
			tell(n == len(i.Args))(t, fmt.Sprint("instruction ", at, " with ", n, " values"), p)
		}
		for _, dst := range []int{math.MinInt, -1, 0, 1000} {
			p := whole()
			p.Funcs[0].Blocks[0].Ins[at].Dst = dst
			if dst == 1000 && i.Dst != 0 {
				p.Funcs[0].Blocks[0].Ins = append(p.Funcs[0].Blocks[0].Ins, num(i.Dst, 1))
				p.Funcs[0].Blocks[0].Ins = append([]ssa.Ins{num(99, 1)}, p.Funcs[0].Blocks[0].Ins...)
				exchange(p.Funcs[0].Blocks[0].Ins, i.Dst, 99)
			}
			ok := dst == 0 && i.Dst == 0 || dst == 1000 && i.Dst != 0
			tell(ok)(t, fmt.Sprint("instruction ", at, " with Dst ", dst), p)
		}
		for _, op := range []ssa.Op{math.MinInt, -1, 0, 8, 9, math.MaxInt} {
			for _, dst := range []int{0, 1000} {
				p := whole()
				p.Funcs[0].Blocks[0].Ins = append(p.Funcs[0].Blocks[0].Ins, ssa.Ins{Op: op, Dst: dst})
				wrong(t, fmt.Sprint("an instruction of the kind ", op), p)
				p = whole()
				p.Funcs[0].Blocks[0].Ins[at].Op = op
				wrong(t, fmt.Sprint("instruction ", at, " of the kind ", op), p)
			}
		}
	}
}

// exchange lets a value be used where another was.
func exchange(ins []ssa.Ins, from, to int) {
	for _, i := range ins {
		for k := range i.Args {
			if i.Args[k] == from {
				i.Args[k] = to
			}
		}
	}
}

func TestInstructionsWhereNothingComes(t *testing.T) {
	for _, i := range []ssa.Ins{
		{}, {Op: ssa.Const}, {Op: ssa.Const, Dst: 20, Args: []int{1}}, {Op: ssa.Bin, Dst: 20, Args: []int{1, 1}},
		{Op: ssa.Set, Dst: 20, Args: []int{1}}, {Op: ssa.Get, Arr: 2, Dst: 20}, {Op: ssa.Load, Arr: 1, Dst: 20},
		{Op: ssa.Store, Arr: 1, Args: []int{1}}, {Op: ssa.Call, Fn: 1, Dst: 20, Args: []int{1}}, {Op: 8},
	} {
		p := whole()
		p.Funcs[0].Blocks[4].Ins = append(p.Funcs[0].Blocks[4].Ins, i)
		wrong(t, fmt.Sprint(i), p)
	}
}

func TestOps(t *testing.T) {
	for o := word.Op(-1); o < 20; o++ {
		tell(o.Known())(t, fmt.Sprint("the op ", int(o)), around(block(nil, ret(2), num(1, 5), bin(2, o, 1, 1))))
	}
	wrong(t, "a great op", around(block(nil, ret(2), num(1, 5), bin(2, math.MaxInt, 1, 1))))
	i := num(1, 5)
	i.Bin, i.Arr, i.Fn = 99, 99, 99
	right(t, "nobody asks a Const for an op, an array, or a function", around(block(nil, ret(1), i)))
}

func TestWhichArray(t *testing.T) {
	for arr, size := range map[int]int{math.MinInt: -1, -1: -1, 0: 0, 1: 3, 2: 1, 3: 4096, 4: 0, 5: -1, math.MaxInt: -1} {
		for what, list := range map[string][]ssa.Ins{
			"Get":   {num(1, 5), get(2, arr)},
			"Set":   {num(1, 5), set(arr, 1)},
			"Load":  {num(1, 5), load(2, arr, 1)},
			"Store": {num(1, 5), store(arr, 1, 1)},
		} {
			p := around(block(nil, ret(1), list...))
			p.Arrays = append(p.Arrays, ssa.Array{Size: 1}, ssa.Array{Size: 4096}, ssa.Array{Hold: ast.Closed})
			ok := size == 0
			if what == "Load" || what == "Store" {
				ok = size > 0
			}
			tell(ok)(t, fmt.Sprint(what, " of array ", arr), p)
		}
	}
}

func TestCalls(t *testing.T) {
	for callee, takes := range map[int]int{math.MinInt: -1, -1: -1, 0: 0, 1: 2, 2: 6, 3: -1, math.MaxInt: -1} {
		for n := range 8 {
			p := whole()
			p.Funcs = append(p.Funcs, fn("g", block(params(1, 2, 3, 4, 5, 6), ret(6))))
			p.Funcs[1].Blocks[0].Ins = []ssa.Ins{call(20, callee, []int{1, 2, 1, 2, 1, 2, 1, 2}[:n]...)}
			tell(n == takes)(t, fmt.Sprint("a call of function ", callee, " with ", n, " values"), p)
		}
	}
	p := around(block(nil, ret(1), call(1, 1)))
	p.Funcs = append(p.Funcs, fn("empty"))
	wrong(t, "a call of a function without a block", p)
	right(t, "a function may call itself", around(block(nil, ret(1), call(1, 0))))
}
