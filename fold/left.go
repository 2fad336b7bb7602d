package fold

import (
	"slices"

	"palings/ssa"
)

// result is the function as it is by now. The work is at an end by that.
func (w *work) result() ssa.Func {
	for _, block := range w.f.Blocks {
		for k := range block.End.Ways {
			way := &block.End.Ways[k]
			way.Args = w.handed(way.Args, w.f.Blocks[way.To].Params)
		}
	}
	isOther := func(v int) bool { return w.now(v) != v }
	for b := range w.f.Blocks {
		block := &w.f.Blocks[b]
		block.Params = slices.DeleteFunc(block.Params, isOther)
		block.Ins = slices.DeleteFunc(block.Ins, func(i ssa.Ins) bool { return isOther(i.Dst) })
	}
	renamed(w.f, w.now)
	return kept(w.f, w.f.Reach())
}

// handed is what a way hands to the parameters that stay.
func (w *work) handed(args, params []int) []int {
	var out []int
	for k, v := range args {
		if w.now(params[k]) == params[k] {
			out = append(out, v)
		}
	}
	return out
}

// dropUnused takes away what makes values alone that nobody uses. A value that is handed on is used, whatever comes of it.
func dropUnused(f ssa.Func, most int) {
	makes, used := make([][]int, most+1), make([]bool, most+1)
	var left []int
	use := func(list ...int) {
		for _, v := range list {
			if !used[v] {
				used[v] = true
				left = append(left, v)
			}
		}
	}
	for _, block := range f.Blocks {
		for _, i := range block.Ins {
			if mayGo(i) {
				makes[i.Dst] = i.Args
			} else {
				use(i.Args...)
			}
		}
		use(block.End.Val)
		for _, way := range block.End.Ways {
			use(way.Args...)
		}
	}
	for len(left) > 0 {
		v := left[len(left)-1]
		left = left[:len(left)-1]
		use(makes[v]...)
	}
	for b := range f.Blocks {
		block := &f.Blocks[b]
		block.Ins = slices.DeleteFunc(block.Ins, func(i ssa.Ins) bool { return mayGo(i) && !used[i.Dst] })
	}
}

// mayGo tells whether an instruction does nothing but make its value.
func mayGo(i ssa.Ins) bool {
	return i.Op == ssa.Const || i.Op == ssa.Get || i.Op == ssa.Bin && !i.Bin.Divides()
}
