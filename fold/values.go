package fold

import "palings/ssa"

// dense gives a function's values the numbers from 1 on, so that what is known of them goes into lists, for they may be as great as numbers are. It tells which numbers they had, too. All values that are used must be made.
func dense(f ssa.Func) (ssa.Func, []int) {
	numbers, now := []int{0}, map[int]int{}
	made(f, func(v int, _ place) {
		now[v] = len(numbers)
		numbers = append(numbers, v)
	})
	renamed(f, func(v int) int { return now[v] })
	return f, numbers
}

// place is where in a function a value is made: by which instruction of a block, or, if at is below 0, as which parameter, counted down.
type place struct {
	block int
	at    int
}

func asParam(block, k int) place { return place{block, -1 - k} }

func (p place) param() int { return -1 - p.at }

// made tells of each value where it is made.
func made(f ssa.Func, tell func(v int, p place)) {
	for b, block := range f.Blocks {
		for k, v := range block.Params {
			tell(v, asParam(b, k))
		}
		for at, i := range block.Ins {
			if i.Dst != 0 {
				tell(i.Dst, place{b, at})
			}
		}
	}
}

// renamed gives each value of a function, wherever it stands, another number; to must leave 0, which is no value, as it is.
func renamed(f ssa.Func, to func(v int) int) {
	each := func(list []int) {
		for k, v := range list {
			list[k] = to(v)
		}
	}
	for b := range f.Blocks {
		block := &f.Blocks[b]
		each(block.Params)
		for at := range block.Ins {
			i := &block.Ins[at]
			i.Dst = to(i.Dst)
			each(i.Args)
		}
		block.End.Val = to(block.End.Val)
		for k := range block.End.Ways {
			each(block.End.Ways[k].Args)
		}
	}
}

// kept is a function of some of its blocks, to others of which none of these goes.
func kept(f ssa.Func, keep []bool) ssa.Func {
	now := make([]int, len(f.Blocks))
	var blocks []ssa.Block
	for b, block := range f.Blocks {
		now[b] = len(blocks)
		if keep[b] {
			blocks = append(blocks, block)
		}
	}
	for _, block := range blocks {
		for k := range block.End.Ways {
			block.End.Ways[k].To = now[block.End.Ways[k].To]
		}
	}
	f.Blocks = blocks
	return f
}
