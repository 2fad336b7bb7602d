package sim

import "palings/ssa"

// function is one whose values have the numbers from 0 on, so that a call keeps them in a list: its parameters come first.
type function struct {
	blocks []ssa.Block
	values int
}

// dense is the functions of a program that is right.
func dense(p ssa.Prog) []function {
	out := make([]function, len(p.Funcs))
	for i, f := range p.Funcs {
		n := numbers{}
		f = f.Clone()
		for b := range f.Blocks {
			n.give(&f.Blocks[b])
		}
		for b := range f.Blocks {
			n.use(&f.Blocks[b])
		}
		out[i] = function{f.Blocks, len(n)}
	}
	return out
}

// numbers is which number each value has now.
type numbers map[int]int

func (n numbers) give(b *ssa.Block) {
	for k, v := range b.Params {
		b.Params[k] = n.next(v)
	}
	for k := range b.Ins {
		if i := &b.Ins[k]; i.Dst != 0 {
			i.Dst = n.next(i.Dst)
		}
	}
}

func (n numbers) next(v int) int {
	number := len(n)
	n[v] = number
	return number
}

func (n numbers) use(b *ssa.Block) {
	for k := range b.Ins {
		n.turn(b.Ins[k].Args)
	}
	for k := range b.End.Ways {
		n.turn(b.End.Ways[k].Args)
	}
	b.End.Val = n[b.End.Val]
}

// turn lets a value that isn't made be 0: only blocks that can't be come to have such ones.
func (n numbers) turn(values []int) {
	for k, v := range values {
		values[k] = n[v]
	}
}
