package taint

import (
	"palings/api"
	"palings/ast"
	"palings/ssa"
)

// spread is how labels go from thing to thing. A thing is an array, what a function returns, or a value that is made in a block that can be come to; they are numbered in this order. Each label begins as what is asked of it whatever the others are, and rises only as far as others ask, so that it is the least one.
type spread struct {
	p      ssa.Prog
	values []map[int]int // by functions, which thing each value is
	labels []api.Label   // of each thing
	calm   []bool        // of each thing: what stays is enough of all that comes to it
	ways   []way
}

// way says that the label of to is at least that of from.
type way struct {
	from int
	to   int
}

func newSpread(p ssa.Prog, cut []map[int]bool) *spread {
	s := &spread{p: p, values: make([]map[int]int, len(p.Funcs))}
	for range len(p.Arrays) + len(p.Funcs) {
		s.add(true)
	}
	for fn := range s.values {
		s.values[fn] = map[int]int{}
	}
	s.eachBlock(func(fn, at int, b ssa.Block) { s.number(fn, at == 0, b, mapOf(cut, fn)) })
	for a, array := range p.Arrays {
		if array.Hold == ast.Closed {
			s.raise(a, api.Secret)
		}
	}
	writes := Writes(p)
	s.eachBlock(func(fn, _ int, b ssa.Block) {
		for _, i := range b.Ins {
			s.join(fn, i, May(writes, i))
		}
		s.joinEnd(fn, b.End)
	})
	return s
}

// mapOf is what a list has for a function; it may be shorter than there are functions.
func mapOf[T any](list []map[int]T, fn int) map[int]T {
	if fn < len(list) {
		return list[fn]
	}
	return nil
}

// eachBlock leaves out the blocks that can't be come to: they say nothing of labels.
func (s *spread) eachBlock(tell func(fn, at int, b ssa.Block)) {
	for fn, f := range s.p.Funcs {
		for at, can := range f.Reach() {
			if can {
				tell(fn, at, f.Blocks[at])
			}
		}
	}
}

func (s *spread) add(calm bool) int {
	s.labels = append(s.labels, api.Public)
	s.calm = append(s.calm, calm)
	return len(s.labels) - 1
}

// number makes a block's values things. What a function is called with has come through a call, behind which no value is wrong any more.
func (s *spread) number(fn int, isFirst bool, b ssa.Block, cut map[int]bool) {
	for _, v := range b.Params {
		s.values[fn][v] = s.add(isFirst || cut[v])
	}
	for _, i := range b.Ins {
		if i.Dst != 0 {
			s.values[fn][i.Dst] = s.add(cut[i.Dst])
		}
	}
}

func (s *spread) returned(fn int) int { return len(s.p.Arrays) + fn }

// lead lays a way from each of some values of a function.
func (s *spread) lead(fn int, from []int, to int) {
	for _, v := range from {
		s.ways = append(s.ways, way{s.values[fn][v], to})
	}
}

// leadEach lays a way from each of some values of a function to that of some values of one which stands at the same place.
func (s *spread) leadEach(fn int, from []int, toFn int, to []int) {
	for k := range from {
		s.lead(fn, from[k:k+1], s.values[toFn][to[k]])
	}
}

func (s *spread) join(fn int, i ssa.Ins, may api.Label) {
	dst := s.values[fn][i.Dst]
	switch i.Op {
	case ssa.Bin:
		s.lead(fn, i.Args, dst)
	case ssa.Get, ssa.Load:
		s.raise(dst, may)
		s.lead(fn, i.Args, dst)
		s.ways = append(s.ways, way{i.Arr, dst})
	case ssa.Set:
		s.lead(fn, i.Args, i.Arr)
	case ssa.Store:
		s.lead(fn, i.Args[1:], i.Arr)
	case ssa.Call:
		s.leadEach(fn, i.Args, i.Fn, s.p.Funcs[i.Fn].Blocks[0].Params)
		s.ways = append(s.ways, way{s.returned(i.Fn), dst})
	}
}

func (s *spread) joinEnd(fn int, e ssa.End) {
	if e.Kind == ssa.Return {
		s.lead(fn, []int{e.Val}, s.returned(fn))
	}
	for _, w := range e.Ways {
		s.leadEach(fn, w.Args, fn, s.p.Funcs[fn].Blocks[w.To].Params)
	}
}
