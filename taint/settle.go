package taint

import (
	"maps"
	"slices"

	"palings/api"
)

// stays is what is left of a label behind a fence, or in memory.
func stays(l api.Label) api.Label {
	if l == api.Transient {
		return api.Public
	}
	return l
}

// raise lets a thing's label be at least as high as another one, and tells whether it rose.
func (s *spread) raise(thing int, l api.Label) bool {
	if s.calm[thing] {
		l = stays(l)
	}
	if l <= s.labels[thing] {
		return false
	}
	s.labels[thing] = l
	return true
}

// settle raises labels until nothing asks for more. A label rises twice at most, so each way is gone twice at most.
func (s *spread) settle() {
	outs := rows(len(s.labels), s.ways)
	var left []int
	for thing, l := range s.labels {
		if l != api.Public {
			left = append(left, thing)
		}
	}
	for len(left) > 0 {
		from := left[len(left)-1]
		left = left[:len(left)-1]
		for _, to := range outs[from] {
			if s.raise(to, s.labels[from]) {
				left = append(left, to)
			}
		}
	}
}

// rows is where the ways of each thing go. All rows are of one list, from which each is cut with just the capacity that it needs: so it is filled by append, and can't run into the next one.
func rows(things int, ways []way) [][]int {
	counts := make([]int, things)
	for _, w := range ways {
		counts[w.from]++
	}
	all, out := make([]int, len(ways)), make([][]int, things)
	at := 0
	for thing, n := range counts {
		out[thing] = all[at : at : at+n]
		at += n
	}
	for _, w := range ways {
		out[w.from] = append(out[w.from], w.to)
	}
	return out
}

// result is what has come of all things, and a copy of what was cut.
func (s *spread) result(cut []map[int]bool) Labels {
	arrays, first := len(s.p.Arrays), s.returned(len(s.p.Funcs))
	out := Labels{
		Arrays: slices.Clone(s.labels[:arrays]),
		Rets:   slices.Clone(s.labels[arrays:first]),
		Vals:   make([]map[int]api.Label, len(s.p.Funcs)),
		Cut:    make([]map[int]bool, len(s.p.Funcs)),
	}
	for fn, values := range s.values {
		out.Vals[fn], out.Cut[fn] = map[int]api.Label{}, map[int]bool{}
		for v, thing := range values {
			if s.labels[thing] != api.Public {
				out.Vals[fn][v] = s.labels[thing]
			}
		}
		maps.Copy(out.Cut[fn], mapOf(cut, fn))
	}
	return out
}
