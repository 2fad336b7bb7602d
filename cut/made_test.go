package cut_test

import (
	"fmt"
	"math/rand"
	"slices"
	"testing"

	"palings/cut"
)

// made is a net of up to so many places, of weights up to most.
func made(r *rand.Rand, places int, most int64) cut.Net {
	n := cut.Net{}
	for range r.Intn(places + 1) {
		n.Weights = append(n.Weights, 1+r.Int63n(most))
	}
	if len(n.Weights) == 0 {
		return n
	}
	one := func() int { return r.Intn(len(n.Weights)) }
	for range r.Intn(1 + len(n.Weights)*(1+r.Intn(4))) {
		w := [2]int{one(), one()}
		if w[0] > w[1] && r.Intn(3) > 0 {
			w[0], w[1] = w[1], w[0]
		}
		n.Ways = append(n.Ways, w)
	}
	for range r.Intn(2 + len(n.Weights)/2) {
		n.From = append(n.From, min(one(), one(), one()))
	}
	for range r.Intn(2 + len(n.Weights)/2) {
		n.To = append(n.To, max(one(), one(), one()))
	}
	return n
}

// comes tells which places are come to from a beginning, and of which of them more than the beginning: those behind places of a list aren't.
func comes(n cut.Net, isCut func(p int) bool) (met, behind []bool) {
	met, behind = make([]bool, len(n.Weights)), make([]bool, len(n.Weights))
	var from func(p int)
	from = func(p int) {
		if met[p] {
			return
		}
		met[p] = true
		if isCut(p) {
			return
		}
		behind[p] = true
		for _, w := range n.Ways {
			if w[0] == p {
				from(w[1])
			}
		}
	}
	for _, p := range n.From {
		from(p)
	}
	return met, behind
}

// within tells whether a set is within another one.
func within(a, b []bool) bool {
	for p := range a {
		if a[p] && !b[p] {
			return false
		}
	}
	return true
}

// nearest tries all sets of places: of those that cut, and of these the lightest ones, it is the one by which the least is come to.
func nearest(t *testing.T, n cut.Net) []int {
	t.Helper()
	var best []int
	var bestMet, bestBehind []bool
	bestWeight := int64(-1)
	for mask := range 1 << len(n.Weights) {
		var places []int
		weight := int64(0)
		for p, w := range n.Weights {
			if mask>>p&1 == 1 {
				places = append(places, p)
				weight += w
			}
		}
		met, behind := comes(n, func(p int) bool { return mask>>p&1 == 1 })
		cuts := !slices.ContainsFunc(n.To, func(p int) bool { return behind[p] })
		if n.Cuts(places) != cuts || n.Weight(places) != weight {
			t.Fatal(n, places, n.Cuts(places), cuts, n.Weight(places), weight)
		}
		if !cuts || bestWeight >= 0 && weight > bestWeight {
			continue
		}
		if bestWeight < 0 || weight < bestWeight || within(met, bestMet) && within(behind, bestBehind) {
			best, bestWeight, bestMet, bestBehind = places, weight, met, behind
		}
	}
	return best
}

func TestMadeSmall(t *testing.T) {
	sizes := map[int]int{}
	for seed := range int64(30000) {
		r := rand.New(rand.NewSource(seed))
		n := made(r, 8, []int64{1, 2, 3, 20}[r.Intn(4)])
		got, want := least(t, "made", n), nearest(t, n)
		if !slices.Equal(got, want) {
			t.Fatal(seed, n, got, want)
		}
		sizes[len(got)]++
	}
	if sizes[0] < 1000 || sizes[1] < 1000 || sizes[2] < 1000 || sizes[3] < 100 {
		t.Error("too few of a size:", sizes)
	}
	t.Log(sizes)
}

// streams is how much more may flow from one end of a place to another end: 2p is ahead of p, 2p+1 behind it; the last two are the spring and the drain.
type streams struct {
	ends int
	outs [][]int
	more map[[2]int]int64
}

func (f *streams) join(a, b int, much int64) {
	if f.more[[2]int{a, b}] == 0 {
		f.more[[2]int{a, b}] = much
		f.outs[a] = append(f.outs[a], b)
		f.outs[b] = append(f.outs[b], a)
	}
}

func streaming(n cut.Net) *streams {
	ends := 2*len(n.Weights) + 2
	f := &streams{ends, make([][]int, ends), map[[2]int]int64{}}
	for p, w := range n.Weights {
		f.join(2*p, 2*p+1, w)
	}
	for _, w := range n.Ways {
		f.join(2*w[0]+1, 2*w[1], 1<<50)
	}
	for _, p := range n.From {
		f.join(ends-2, 2*p, 1<<50)
	}
	for _, p := range n.To {
		f.join(2*p+1, ends-1, 1<<50)
	}
	return f
}

// by tells from which end each end is come to on a shortest way, -1 of those that aren't.
func (f *streams) by() []int {
	by, spring := slices.Repeat([]int{-1}, f.ends), f.ends-2
	by[spring] = spring
	for left := []int{spring}; len(left) > 0; left = left[1:] {
		for _, to := range f.outs[left[0]] {
			if by[to] < 0 && f.more[[2]int{left[0], to}] > 0 {
				by[to] = left[0]
				left = append(left, to)
			}
		}
	}
	return by
}

// plain lets flow along one shortest way after the other, and tells how much.
func plain(n cut.Net) ([]int, int64) {
	f, flow := streaming(n), int64(0)
	spring, drain := f.ends-2, f.ends-1
	by := f.by()
	for ; by[drain] >= 0; by = f.by() {
		much := int64(1 << 50)
		for e := drain; e != spring; e = by[e] {
			much = min(much, f.more[[2]int{by[e], e}])
		}
		for e := drain; e != spring; e = by[e] {
			f.more[[2]int{by[e], e}] -= much
			f.more[[2]int{e, by[e]}] += much
		}
		flow += much
	}
	var out []int
	for p := range n.Weights {
		if by[2*p] >= 0 && by[2*p+1] < 0 {
			out = append(out, p)
		}
	}
	return out, flow
}

// samePlain holds what Least tells against what flows.
func samePlain(t *testing.T, seed int64, n cut.Net) []int {
	t.Helper()
	got := least(t, "made", n)
	want, flow := plain(n)
	if !slices.Equal(got, want) || n.Weight(got) != flow {
		t.Fatalf("seed %d: %v, want %v; %d, want %d; of %.2000s", seed, got, want, n.Weight(got), flow, fmt.Sprint(n))
	}
	return got
}

func TestMadeGreater(t *testing.T) {
	great := 0
	for seed := range int64(3000) {
		r := rand.New(rand.NewSource(seed))
		n := made(r, 20+r.Intn(80), []int64{1, 3, 10000, cut.MaxWeight}[r.Intn(4)])
		if len(samePlain(t, seed, n)) > 3 {
			great++
		}
	}
	if great < 500 {
		t.Error("too few are great:", great)
	}
	t.Log(great)
}

// What flows first takes the places that others need, so it must be sent back again and again.
func TestMadeGreat(t *testing.T) {
	for seed := range int64(10) {
		r := rand.New(rand.NewSource(seed))
		n := cut.Net{From: row(0, 199), To: row(many-200, many-1)}
		for range many {
			n.Weights = append(n.Weights, 1+r.Int63n(1+seed*seed*7))
		}
		for range 1500 + 500*seed {
			p := r.Intn(many - 200)
			n.Ways = append(n.Ways, [2]int{p, p + 1 + r.Intn(400)%(many-1-p)}, [2]int{r.Intn(many), r.Intn(many)})
		}
		if got := samePlain(t, seed, n); len(got) < 50 {
			t.Error(seed, "too few", len(got))
		}
	}
}
