package dom_test

import (
	"math/rand"
	"testing"

	"palings/dom"
)

// comes tells which places are come to from the first one without going through that one.
func comes(outs [][]int, without int) []bool {
	met := make([]bool, len(outs))
	var from func(place int)
	from = func(place int) {
		if place < 0 || place >= len(outs) || place == without || met[place] {
			return
		}
		met[place] = true
		for _, to := range outs[place] {
			from(to)
		}
	}
	from(0)
	return met
}

func tryGraph(t *testing.T, outs [][]int) {
	t.Helper()
	tree := dom.Of(outs)
	all := comes(outs, -1)
	for a := range outs {
		left := comes(outs, a)
		for b := range outs {
			if want := all[a] && all[b] && !left[b]; tree.Over(a, b) != want {
				t.Fatalf("%v: %d over %d: not %v", outs, a, b, want)
			}
		}
	}
}

func TestGraphs(t *testing.T) {
	for _, outs := range [][][]int{
		{},
		{{}},
		{{0}},
		{{1}, {}},
		{{}, {0}},
		{{1}, {0}},
		{{1, 2}, {3}, {3}, {}},
		{{1, 2}, {2}, {1}},
		{{1, 1, 1}, {1, 0}},
		{{1}, {2, 3}, {1}, {}},
		{{1, 2}, {3}, {4}, {3, 4}, {}},
		{{-1, 1}, {2, 9}, {3}, {}, {2}},
		{{4, 1}, {2}, {3, 1}, {2, 5}, {5}, {3}, {3}, {6}},
		// the graph of Lengauer's and Tarjan's paper
		{{1, 2, 3}, {4}, {1, 4, 5}, {6, 7}, {12}, {8}, {9}, {9, 10}, {5, 11}, {11}, {9}, {9, 0}, {8}},
	} {
		tryGraph(t, outs)
	}
}

func TestMadeGraphs(t *testing.T) {
	for seed := range int64(20000) {
		r := rand.New(rand.NewSource(seed))
		outs := make([][]int, 1+r.Intn(12))
		most := 1 + r.Intn(3)
		for place := range outs {
			for range r.Intn(most + 1) {
				outs[place] = append(outs[place], r.Intn(len(outs)+2)-1)
			}
		}
		tryGraph(t, outs)
	}
}

// Each place goes on to the next one and to the last one: a way up from there, place by place, would take too long, and so would calls within each other.
func TestGreatGraphs(t *testing.T) {
	const n = 1 << 20
	outs := make([][]int, n)
	for place := range n - 1 {
		outs[place] = []int{place + 1, n - 1}
	}
	tree := dom.Of(outs)
	if !tree.Over(0, n-1) || tree.Over(1, n-1) || !tree.Over(5, n-2) || tree.Over(n-2, 5) {
		t.Error("a chain with an end")
	}
	for place := range n - 1 {
		outs[place] = []int{place + 1}
	}
	outs[n-1] = []int{0}
	tree = dom.Of(outs)
	if !tree.Over(0, n-1) || !tree.Over(n-2, n-1) || tree.Over(n-1, n-2) {
		t.Error("a ring")
	}
}
