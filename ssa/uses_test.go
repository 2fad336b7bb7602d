package ssa_test

import (
	"fmt"
	"math"
	"testing"

	"palings/api"
	"palings/ssa"
	"palings/word"
)

// uses is each thing that uses a value, as a block that ends there.
func uses(v int) map[string]ssa.Block {
	return map[string]ssa.Block{
		"bin":          block(nil, ret(1), bin(50, word.Add, v, 1)),
		"bin's second": block(nil, ret(1), bin(50, word.Add, 1, v)),
		"set":          block(nil, ret(1), set(0, v)),
		"load":         block(nil, ret(1), load(50, 1, v)),
		"store":        block(nil, ret(1), store(1, v, 1)),
		"store's":      block(nil, ret(1), store(1, 1, v)),
		"call":         block(nil, ret(1), call(50, 1, v)),
		"return":       block(nil, ret(v)),
		"branch":       block(nil, branch(v, to(9), to(9))),
		"jump":         block(nil, jump(to(10, v))),
		"way":          block(nil, branch(1, to(10, v), to(9))),
		"second way":   block(nil, branch(1, to(9), to(10, v))),
	}
}

// at lays each use of a value into a block of a function of ten and more, in which block 9 returns, and block 10 has a parameter.
func at(t *testing.T, what string, ok bool, v, b int, ahead []ssa.Ins, blocks ...ssa.Block) {
	t.Helper()
	for name, use := range uses(v) {
		p := around(make([]ssa.Block, 11)...)
		for k := range p.Funcs[0].Blocks {
			p.Funcs[0].Blocks[k] = block(nil, trap(api.Zero))
		}
		copy(p.Funcs[0].Blocks, blocks)
		p.Funcs[0].Blocks[9] = block(nil, ret(1))
		p.Funcs[0].Blocks[10] = block(params(60), ret(60))
		use.Params = p.Funcs[0].Blocks[b].Params
		use.Ins = append(append([]ssa.Ins{}, ahead...), use.Ins...)
		p.Funcs[0].Blocks[b] = use
		p.Funcs = append(p.Funcs, fn("f", block(params(1), ret(1))))
		tell(ok)(t, what+": "+name, p)
	}
}

func TestUses(t *testing.T) {
	first := num(1, 5)
	fork := block(nil, branch(1, to(1), to(2)), first)
	one := []ssa.Ins{first}
	two := []ssa.Ins{first, num(2, 6)}
	none := block(nil, ret(1))
	at(t, "made ahead in the same block", true, 2, 0, two)
	at(t, "made nowhere", false, 2, 0, one)
	at(t, "0", false, 0, 0, nil)
	at(t, "below 0", false, -1, 0, one)
	at(t, "made in another function", false, 3, 0, one)
	at(t, "made in the block ahead", true, 2, 1, nil, block(nil, jump(to(1)), two...), none)
	at(t, "made two blocks ahead", true, 2, 2, nil, block(nil, jump(to(1)), two...), block(nil, jump(to(2))), none)
	at(t, "made as a parameter", true, 2, 1, nil, block(nil, jump(to(1, 1)), first), block(params(2), ret(1)))
	at(t, "made as a parameter ahead", true, 2, 2, nil, block(nil, jump(to(1, 1)), first), block(params(2), jump(to(2))), none)
	at(t, "made on no way", false, 2, 1, nil, block(nil, jump(to(1)), first), none, block(nil, jump(to(1)), num(2, 6)))
	at(t, "made as a parameter where nothing comes", false, 2, 1, nil, block(nil, jump(to(1)), first), none, block(params(2), jump(to(1))))
	at(t, "made on one of two ways", false, 2, 3, nil, fork, block(nil, jump(to(3)), num(2, 6)), block(nil, jump(to(3))), none)
	at(t, "made on the other of two ways", false, 2, 3, nil, fork, block(nil, jump(to(3))), block(nil, jump(to(3)), num(2, 6)), none)
	at(t, "a parameter on one of two ways", false, 2, 3, nil, block(nil, branch(1, to(1, 1), to(2)), first), block(params(2), jump(to(3))), block(nil, jump(to(3))), none)
	at(t, "made on one way, used on the other", false, 2, 2, nil, fork, block(nil, ret(1), num(2, 6)), none)
	at(t, "made ahead of two ways", true, 2, 3, nil, block(nil, branch(1, to(1), to(2)), two...), block(nil, jump(to(3))), block(nil, jump(to(3))), none)
	at(t, "one of the two ways ends", true, 2, 3, nil, fork, block(nil, trap(api.Bounds)), block(nil, jump(to(3)), num(2, 6)), none)
	at(t, "made on one way, and nothing comes on the other", true, 2, 2, nil, block(nil, jump(to(1)), first), block(nil, jump(to(2)), num(2, 6)), none, block(nil, jump(to(2))))
	at(t, "one way goes round it", false, 2, 2, nil, block(nil, branch(1, to(1), to(2)), first), block(nil, jump(to(2)), num(2, 6)), none)
	at(t, "made ahead of a loop", true, 2, 2, nil, block(nil, jump(to(1)), two...), block(nil, branch(1, to(2), to(1))), none)
	at(t, "made in a loop, used behind its top", false, 2, 3, nil, block(nil, jump(to(1)), first), block(nil, branch(1, to(2), to(3))), block(nil, jump(to(1)), num(2, 6)), none)
	at(t, "made at a loop's top, used behind it", true, 2, 3, nil, block(nil, jump(to(1)), first), block(nil, branch(1, to(2), to(3)), num(2, 6)), block(nil, jump(to(1))), none)
	at(t, "made in a loop that is left at its end", true, 2, 3, nil, block(nil, jump(to(1)), first), block(nil, jump(to(2)), num(2, 6)), block(nil, branch(1, to(1), to(3))), none)
	at(t, "a wrong use where nothing comes", true, 2, 1, nil, block(nil, ret(1), first), none)
	at(t, "made behind a use where nothing comes", true, 2, 1, nil, block(nil, ret(1), first), none, block(nil, ret(1), num(2, 6)))
}

// Args that are no values at all are wrong uses, too, and so no fault where nothing comes.
func TestUsesOfNoValues(t *testing.T) {
	for _, v := range []int{math.MinInt, -1, 0, math.MaxInt} {
		for _, comes := range []int{1, 2} {
			p := around(block(nil, jump(to(comes)), num(1, 5)), block(nil, jump(to(3, v)), store(1, v, v)), block(nil, ret(1)), block(params(2), ret(2)))
			tell(comes == 2)(t, fmt.Sprint("a use of ", v), p)
		}
	}
}

// What lies behind a use, or is the user itself, isn't made ahead of it.
func TestUsesInOneBlock(t *testing.T) {
	loop := func(body ssa.Block) ssa.Prog {
		body.End = branch(1, to(1), to(2))
		return around(block(nil, jump(to(1)), num(1, 5)), body, block(nil, ret(1)))
	}
	for what, p := range map[string]ssa.Prog{
		"behind it":                       around(block(nil, ret(1), num(1, 5), set(0, 2), num(2, 6))),
		"behind it, in a loop":            loop(block(nil, ssa.End{}, set(0, 2), num(2, 6))),
		"by itself":                       around(block(nil, ret(1), num(1, 5), bin(2, word.Add, 1, 2))),
		"by itself, in a loop":            loop(block(nil, ssa.End{}, bin(2, word.Add, 1, 2))),
		"in a loop's body, used ahead":    around(block(nil, jump(to(1)), num(1, 5)), block(nil, branch(1, to(2), to(3)), set(0, 2)), block(nil, jump(to(1)), num(2, 6)), block(nil, ret(1))),
		"in a loop's body, on the way in": around(block(nil, jump(to(1, 3)), num(1, 5)), block(params(2), branch(2, to(1, 3), to(2)), num(3, 6)), block(nil, ret(1))),
		"a parameter, on the way to it":   around(block(nil, jump(to(1, 2)), num(1, 5)), block(params(2), ret(2))),
		"its own call's value":            around(block(nil, ret(1), num(1, 5), load(2, 1, 2))),
	} {
		wrong(t, what, p)
	}
	for what, p := range map[string]ssa.Prog{
		"the body's value, on the way back": around(block(nil, jump(to(1, 1)), num(1, 5)), block(params(2), branch(2, to(1, 3), to(2)), num(3, 6)), block(nil, ret(3))),
		"a parameter, on the way back":      around(block(nil, jump(to(1, 1)), num(1, 5)), block(params(2), branch(2, to(1, 2), to(2)), num(3, 6)), block(nil, ret(3))),
		"the last one at the end":           loop(block(nil, ssa.End{}, num(2, 6), set(0, 2))),
	} {
		right(t, what, p)
	}
}

// Programs may have very many blocks, each of which goes on and to the last one.
func TestVeryManyBlocks(t *testing.T) {
	const n = 300000
	p := around(make([]ssa.Block, n)...)
	for b := range p.Funcs[0].Blocks {
		p.Funcs[0].Blocks[b] = block(nil, branch(1, to(b+1), to(n-1)), num(b+1, 5), set(0, 1))
	}
	p.Funcs[0].Blocks[n-2].End = jump(to(n - 1))
	p.Funcs[0].Blocks[n-1].End = ret(1)
	right(t, "a chain", p)
	p.Funcs[0].Blocks[n-1].End.Val = 2
	wrong(t, "a chain, and a value of its second block at its end", p)
	p.Funcs[0].Blocks[n-1].End.Val = n
	p.Funcs[0].Blocks[n-2].Ins[1].Args[0] = 2
	right(t, "a value of its second block ahead of its end", p)
}
