package sim_test

import (
	"math/big"

	"palings/api"
	"palings/ast"
	"palings/sim"
	"palings/ssa"
	"palings/word"
)

// naive does what the chapter says, sentence by sentence, on programs that are right. It goes into calls by calls of its own, and comes out of a run by a panic.
type naive struct {
	p    ssa.Prog
	fuel int
	deep int
	r    sim.Result
}

type tooMuch struct{}

// expected is what a run is to answer.
func expected(p ssa.Prog, in [][]int64, fuel int) (r sim.Result, e api.Errno) {
	n := &naive{p: p, fuel: fuel}
	k := 0
	for _, a := range p.Arrays {
		words := make([]int64, max(a.Size, 1))
		if a.Hold != ast.Own {
			for i := range words {
				if k < len(in) && i < len(in[k]) {
					words[i] = in[k][i]
				}
			}
			k++
		}
		n.r.Mem = append(n.r.Mem, words)
	}
	defer func() {
		switch end := recover().(type) {
		case nil:
		case tooMuch:
			r, e = sim.Result{}, api.ErrSteps
		case api.Trap:
			r, e = n.r, api.OK
			r.Trap = end
		default:
			panic(end)
		}
	}()
	n.r.Val = n.call(p.Main, nil)
	return n.r, api.OK
}

func (n *naive) step() {
	n.r.Steps++
	if n.r.Steps > n.fuel {
		panic(tooMuch{})
	}
}

func (n *naive) leak(k api.Kind, a, b int64) {
	n.r.Leaks = append(n.r.Leaks, api.Leak{Kind: k, A: a, B: b})
}

// called is what the values of a call are by now, by their numbers.
type called map[int]int64

func (c called) each(values []int) []int64 {
	var out []int64
	for _, v := range values {
		word, ok := c[v]
		if !ok {
			panic("a value that isn't made")
		}
		out = append(out, word)
	}
	return out
}

func (n *naive) call(f int, args []int64) int64 {
	n.deep++
	if n.deep > 2000 {
		panic(tooMuch{})
	}
	n.r.Deep = max(n.r.Deep, n.deep)
	vals := called{}
	block := 0
	for {
		b := n.p.Funcs[f].Blocks[block]
		for i, param := range b.Params {
			vals[param] = args[i]
		}
		for _, i := range b.Ins {
			n.step()
			v := n.instruction(i, vals.each(i.Args))
			if i.Dst != 0 {
				vals[i.Dst] = v
			}
		}
		n.step()
		way := 0
		switch b.End.Kind {
		case ssa.Trap:
			panic(b.End.Trap)
		case ssa.Return:
			n.deep--
			return vals.each([]int{b.End.Val})[0]
		case ssa.Branch:
			if vals.each([]int{b.End.Val})[0] != 0 {
				n.leak(api.LeakBranch, 1, 0)
			} else {
				n.leak(api.LeakBranch, 0, 0)
				way = 1
			}
		}
		args = vals.each(b.End.Ways[way].Args)
		block = b.End.Ways[way].To
	}
}

func (n *naive) instruction(i ssa.Ins, args []int64) int64 {
	switch i.Op {
	case ssa.Const:
		return i.Num
	case ssa.Get:
		return n.r.Mem[i.Arr][0]
	case ssa.Set:
		n.r.Mem[i.Arr][0] = args[0]
	case ssa.Load:
		return *n.item(i.Arr, args[0])
	case ssa.Store:
		*n.item(i.Arr, args[0]) = args[1]
	case ssa.Call:
		return n.call(i.Fn, args)
	case ssa.Bin:
		if i.Bin == word.Div || i.Bin == word.Mod {
			n.leak(api.LeakDiv, args[0], args[1])
		}
		v, ok := word.Do(i.Bin, args[0], args[1])
		if !ok {
			panic(api.Zero)
		}
		return v
	}
	return 0
}

// item holds an index without sign against the length by numbers that have no bound.
func (n *naive) item(arr int, at int64) *int64 {
	n.leak(api.LeakIndex, at, 0)
	words := n.r.Mem[arr]
	unsigned := new(big.Int).SetUint64(uint64(at))
	if unsigned.Cmp(big.NewInt(int64(len(words)))) >= 0 {
		panic(api.Wild)
	}
	return &words[at]
}
