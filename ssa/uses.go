package ssa

import "palings/dom"

// uses knows where the values of a function are made, and which blocks are on each way to others.
type uses struct {
	made map[int]place
	tree dom.Tree
}

// usesRight tells it of the blocks that can be come to: no way comes to a use in another one.
func (f Func) usesRight(made map[int]place) bool {
	u := uses{made, dom.Of(f.outs())}
	for b, can := range f.Reach() {
		if can && !u.blockRight(b, f.Blocks[b]) {
			return false
		}
	}
	return true
}

func (f Func) outs() [][]int {
	out := make([][]int, len(f.Blocks))
	for b, block := range f.Blocks {
		for _, w := range block.End.Ways {
			out[b] = append(out[b], w.To)
		}
	}
	return out
}

func (u uses) blockRight(b int, block Block) bool {
	for at, i := range block.Ins {
		if !u.right(i.Args, place{b, at}) {
			return false
		}
	}
	end := place{b, len(block.Ins)}
	if block.End.Val != 0 && !u.right([]int{block.End.Val}, end) {
		return false
	}
	for _, w := range block.End.Ways {
		if !u.right(w.Args, end) {
			return false
		}
	}
	return true
}

// right tells whether all values are made ahead of here, however it is come to.
func (u uses) right(values []int, here place) bool {
	for _, v := range values {
		from, ok := u.made[v]
		if !ok {
			return false
		}
		if from.block == here.block && from.at >= here.at {
			return false
		}
		if !u.tree.Over(from.block, here.block) {
			return false
		}
	}
	return true
}
