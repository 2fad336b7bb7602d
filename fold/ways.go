package fold

import (
	"slices"

	"palings/dom"
	"palings/ssa"
)

// ways is where the blocks of a function go, as far as anything goes there yet.
type ways struct {
	outs [][]*way
	ins  [][]*way
	left []int // how many ways come to a block otherwise than through itself; of 0 it can't be come to
}

// way is one from a block to another one. It enters that, if it doesn't come from a block to which nothing comes but through it.
type way struct {
	to     int
	args   []int
	enters bool
	lost   bool
}

func newWays(f ssa.Func) *ways {
	n := len(f.Blocks)
	tos := make([][]int, n)
	for b, block := range f.Blocks {
		for _, e := range block.End.Ways {
			tos[b] = append(tos[b], e.To)
		}
	}
	tree := dom.Of(tos)
	w := &ways{make([][]*way, n), make([][]*way, n), make([]int, n)}
	for b, block := range f.Blocks {
		for _, e := range block.End.Ways {
			x := &way{to: e.To, args: e.Args, enters: !tree.Over(e.To, b)}
			w.outs[b] = append(w.outs[b], x)
			w.ins[e.To] = append(w.ins[e.To], x)
			if x.enters {
				w.left[e.To]++
			}
		}
	}
	return w
}

// lose takes ways away, and with them those of blocks that can't be come to by that, and tells of each where it went. Blocks that still come to one another stay, if nothing lies on all ways to them: nothing here tells that they are left alone.
func (w *ways) lose(tell func(to int), list ...*way) {
	list = slices.Clone(list)
	for len(list) > 0 {
		x := list[len(list)-1]
		list = list[:len(list)-1]
		if x.lost {
			continue
		}
		x.lost = true
		tell(x.to)
		if x.enters {
			w.left[x.to]--
			if w.left[x.to] == 0 {
				list = append(list, w.outs[x.to]...)
			}
		}
	}
}
