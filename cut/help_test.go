package cut_test

import (
	"fmt"
	"slices"
	"testing"

	"palings/cut"
)

func list(places ...int) []int { return places }

// row is the places from a on, to b itself.
func row(a, b int) []int {
	var out []int
	for p := a; p <= b; p++ {
		out = append(out, p)
	}
	return out
}

func weights(w ...int64) []int64 { return w }

func same(n int, w int64) []int64 { return slices.Repeat([]int64{w}, n) }

func ways(w ...[2]int) [][2]int { return w }

// chain is the ways from each of some places to the next one.
func chain(places ...int) [][2]int {
	var out [][2]int
	for k := 1; k < len(places); k++ {
		out = append(out, [2]int{places[k-1], places[k]})
	}
	return out
}

// copied is a net that shares nothing with it.
func copied(n cut.Net) cut.Net {
	return cut.Net{Weights: slices.Clone(n.Weights), Ways: slices.Clone(n.Ways), From: slices.Clone(n.From), To: slices.Clone(n.To)}
}

func sameNet(t *testing.T, what string, n, m cut.Net) {
	t.Helper()
	if !slices.Equal(n.Weights, m.Weights) || !slices.Equal(n.Ways, m.Ways) || !slices.Equal(n.From, m.From) || !slices.Equal(n.To, m.To) {
		t.Errorf("%s: it was changed", what)
	}
}

// least is what Least tells of a net that is right, if it has turned nothing, tells the same again, and what it tells cuts it.
func least(t *testing.T, what string, n cut.Net) []int {
	t.Helper()
	m := copied(n)
	got, ok := cut.Least(n)
	if !ok || !n.Right() {
		t.Errorf("%s: %v, it isn't right: %.500s", what, ok, fmt.Sprint(n))
	}
	sameNet(t, what, n, m)
	if !slices.IsSorted(got) || len(slices.Compact(slices.Clone(got))) != len(got) {
		t.Errorf("%s: not rising: %v", what, got)
	}
	if !n.Cuts(got) {
		t.Errorf("%s: no cut: %.500s of %.500s", what, fmt.Sprint(got), fmt.Sprint(n))
	}
	again, _ := cut.Least(n)
	if !slices.Equal(got, again) {
		t.Errorf("%s: %v, and again %v", what, got, again)
	}
	return got
}
