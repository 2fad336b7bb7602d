package build

import (
	"slices"

	"palings/ssa"
)

// way is one of a block's end that goes nowhere yet. A block that has no end yet is one, too: laying on in it costs no jump.
type way struct {
	block int
	which int
}

const noEnd = -1

// The ways of a branch.
const (
	ifSo = iota
	ifNot
)

// loose lets nothing come here any more but by the way that it tells.
func (m *maker) loose() way {
	w := way{m.here, noEnd}
	m.here = none
	return w
}

// fork ends the block by a truth: on that way it is laid on, in a new block; the other way is told.
func (m *maker) fork(truth, on int) way {
	from := m.here
	m.end(ssa.End{Kind: ssa.Branch, Val: truth, Ways: make([]ssa.Edge, 2)})
	m.lead(way{from, on}, m.begin())
	return way{from, ifSo + ifNot - on}
}

// lead lets a way go to a block, whose parameters are these then.
func (m *maker) lead(w way, to int, args ...int) {
	end := &m.blocks[w.block].End
	if w.which == noEnd {
		*end = ssa.End{Kind: ssa.Jump, Ways: make([]ssa.Edge, 1)}
		w.which = 0
	}
	end.Ways[w.which] = ssa.Edge{To: to, Args: args}
}

// follow lays on where that way goes, and no other one.
func (m *maker) follow(w way) {
	if w.which == noEnd {
		m.here = w.block
		return
	}
	m.lead(w, m.begin())
}

// meet lays on where several ways come together, each with a list of as many values: it tells what these are there.
func (m *maker) meet(ways []way, lists ...[]int) []int {
	to := m.begin()
	out, args := slices.Clone(lists[0]), make([][]int, len(ways))
	for k := range out {
		if alike(k, lists...) {
			continue
		}
		out[k] = m.param(to)
		for i, list := range lists {
			args[i] = append(args[i], list[k])
		}
	}
	for i, w := range ways {
		m.lead(w, to, args[i]...)
	}
	return out
}

// alike tells whether the k-th value of all lists is one and the same.
func alike(k int, lists ...[]int) bool {
	for _, list := range lists {
		if list[k] != lists[0][k] {
			return false
		}
	}
	return true
}
