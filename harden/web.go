package harden

import (
	"cmp"
	"slices"

	"palings/api"
	"palings/cut"
	"palings/flow"
	"palings/ssa"
	"palings/taint"
)

const (
	perLoop   = 10 // how much heavier each loop makes what is in it
	mostLoops = 4  // in more, what is in them gets no heavier
)

// hazards is what layer 12 says of a program, without fences.
type hazards struct {
	p      ssa.Prog
	vals   []map[int]api.Label
	writes []bool
	sinks  []taint.Sink
	known  [][]int // by functions, what becomes known at the sinks
}

func newHazards(p ssa.Prog) (*hazards, api.Errno) {
	l, e := taint.Of(p, nil)
	if e != api.OK {
		return nil, e
	}
	h := &hazards{p, l.Vals, taint.Writes(p), taint.Sinks(p, l), make([][]int, len(p.Funcs))}
	for _, s := range h.sinks {
		h.known[s.Fn] = append(h.known[s.Fn], s.Val)
	}
	return h, api.OK
}

// web is the net of a function's values that may be wrong for a while.
type web struct {
	net    cut.Net
	values []int       // which value each place is
	places map[int]int // which place each value is
}

func (h *hazards) web(fn int) *web {
	w, f := &web{places: map[int]int{}}, h.p.Funcs[fn]
	w.number(f, h.vals[fn])
	w.join(f)
	w.begin(f, h.writes)
	w.end(h.known[fn])
	return w
}

// number makes values places. One that is made where nothing comes has no label, and so is none.
func (w *web) number(f ssa.Func, labels map[int]api.Label) {
	depths := flow.New(f).Depths()
	for b, block := range f.Blocks {
		made := slices.Clone(block.Params)
		for _, i := range block.Ins {
			made = append(made, i.Dst)
		}
		for _, v := range made {
			if labels[v] == api.Transient {
				w.places[v] = len(w.values)
				w.values = append(w.values, v)
				w.net.Weights = append(w.net.Weights, weight(depths[b]))
			}
		}
	}
}

// weight is that of what is in so many loops.
func weight(loops int) int64 {
	out := int64(1)
	for range min(loops, mostLoops) {
		out *= perLoop
	}
	return out
}

// join lays the ways, those from blocks to which nothing comes among them. A value may come to another one in several ways, but there is one between the two.
func (w *web) join(f ssa.Func) {
	for _, block := range f.Blocks {
		for _, i := range block.Ins {
			for _, v := range i.Args {
				w.lead(v, i.Dst)
			}
		}
		for _, way := range block.End.Ways {
			for k, v := range way.Args {
				w.lead(v, f.Blocks[way.To].Params[k])
			}
		}
	}
	slices.SortFunc(w.net.Ways, func(a, b [2]int) int {
		return cmp.Or(cmp.Compare(a[0], b[0]), cmp.Compare(a[1], b[1]))
	})
	w.net.Ways = slices.Compact(w.net.Ways)
}

// lead lays a way between two values, if both are places.
func (w *web) lead(from, to int) {
	a, isPlace := w.places[from]
	b, areBoth := w.places[to]
	if isPlace && areBoth {
		w.net.Ways = append(w.net.Ways, [2]int{a, b})
	}
}

// begin is told in the order of the places, for these are in that of the instructions.
func (w *web) begin(f ssa.Func, writes []bool) {
	for _, block := range f.Blocks {
		for _, i := range block.Ins {
			place, ok := w.places[i.Dst]
			if ok && taint.May(writes, i) == api.Transient {
				w.net.From = append(w.net.From, place)
			}
		}
	}
}

// end leaves out what is secret: it is no place.
func (w *web) end(known []int) {
	for _, v := range known {
		if place, ok := w.places[v]; ok {
			w.net.To = append(w.net.To, place)
		}
	}
	slices.Sort(w.net.To)
	w.net.To = slices.Compact(w.net.To)
}
