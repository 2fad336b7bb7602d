package build

import "palings/ssa"

// uses knows which values of a function are used.
type uses struct {
	used []bool
	left []int   // those of which it isn't asked yet what they are made of
	from [][]int // of each parameter what it is on the ways to it
}

// dropUnused takes away the parameters that no instruction, and no end, comes to use: a name that is turned has one at first, whether it is asked for again or not. Those of the first block are the function's, and stay.
func dropUnused(blocks []ssa.Block, last int) {
	u := &uses{used: make([]bool, last+1), from: make([][]int, last+1)}
	eachWay(blocks, func(w *ssa.Edge) {
		for k, param := range blocks[w.To].Params {
			u.from[param] = append(u.from[param], w.Args[k])
		}
	})
	for _, b := range blocks {
		for _, i := range b.Ins {
			u.use(i.Args...)
		}
		u.use(b.End.Val)
	}
	for len(u.left) > 0 {
		v := u.left[len(u.left)-1]
		u.left = u.left[:len(u.left)-1]
		u.use(u.from[v]...)
	}
	eachWay(blocks, func(w *ssa.Edge) {
		w.Args = u.kept(w.Args, blocks[w.To].Params)
	})
	for b := 1; b < len(blocks); b++ {
		blocks[b].Params = u.kept(blocks[b].Params, blocks[b].Params)
	}
}

func eachWay(blocks []ssa.Block, tell func(*ssa.Edge)) {
	for b := range blocks {
		for k := range blocks[b].End.Ways {
			tell(&blocks[b].End.Ways[k])
		}
	}
}

func (u *uses) use(values ...int) {
	for _, v := range values {
		if !u.used[v] {
			u.used[v] = true
			u.left = append(u.left, v)
		}
	}
}

// kept is what stands in a list where a parameter is used.
func (u *uses) kept(list, params []int) []int {
	var out []int
	for k, param := range params {
		if u.used[param] {
			out = append(out, list[k])
		}
	}
	return out
}
