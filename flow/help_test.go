package flow_test

import (
	"math/rand"

	"palings/flow"
	"palings/ssa"
)

// function is one whose blocks have those ways, and nothing else.
func function(outs [][]int) ssa.Func {
	f := ssa.Func{Name: "f"}
	for _, list := range outs {
		b := ssa.Block{}
		for _, to := range list {
			b.End.Ways = append(b.End.Ways, ssa.Edge{To: to, Args: []int{to, 1}})
		}
		f.Blocks = append(f.Blocks, b)
	}
	return f
}

func graph(outs ...[]int) *flow.Graph { return flow.New(function(outs)) }

// to is where the ways of a block go.
func to(blocks ...int) []int { return blocks }

// madeGraph has few blocks, some ways to which aren't there.
func madeGraph(seed int64) [][]int {
	r := rand.New(rand.NewSource(seed))
	outs := make([][]int, 1+r.Intn(12))
	most := 1 + r.Intn(3)
	for b := range outs {
		for range r.Intn(most + 1) {
			w := r.Intn(len(outs)+2) - 1
			if r.Intn(3) == 0 {
				w = b + 1
			}
			outs[b] = append(outs[b], w)
		}
	}
	return outs
}

// comes tells which blocks are come to from a block without going through that one.
func comes(outs [][]int, first, without int) []bool {
	met := make([]bool, len(outs))
	var from func(b int)
	from = func(b int) {
		if b < 0 || b >= len(outs) || b == without || met[b] {
			return
		}
		met[b] = true
		for _, w := range outs[b] {
			from(w)
		}
	}
	from(first)
	return met
}

// doms is a second reading: a block is on each way to another one, if that isn't come to without it.
func doms(outs [][]int) [][]bool {
	all := comes(outs, 0, -1)
	rows := make([][]bool, len(outs))
	for b := range outs {
		rows[b] = make([]bool, len(outs))
		for a := range outs {
			rows[b][a] = all[b] && all[a] && !comes(outs, 0, a)[b]
		}
	}
	return rows
}

// depths is a second reading: each top's loop is looked for by itself.
func depths(outs [][]int) []int {
	all, rows := comes(outs, 0, -1), doms(outs)
	in := make([]map[int]bool, len(outs)) // of each block the tops of its loops
	for b := range outs {
		in[b] = map[int]bool{}
	}
	for from := range outs {
		for _, top := range outs[from] {
			if !all[from] || top < 0 || top >= len(outs) || !rows[from][top] {
				continue
			}
			in[top][top] = true
			for b := range outs {
				if all[b] && comes(outs, b, top)[from] {
					in[b][top] = true
				}
			}
		}
	}
	var out []int
	for b := range outs {
		out = append(out, len(in[b]))
	}
	return out
}

// order is a second reading, by calls within each other.
func order(outs [][]int) []int {
	met := make([]bool, len(outs))
	var laid []int
	var from func(b int)
	from = func(b int) {
		if b < 0 || b >= len(outs) || met[b] {
			return
		}
		met[b] = true
		for _, w := range outs[b] {
			from(w)
		}
		laid = append([]int{b}, laid...)
	}
	from(0)
	return laid
}
