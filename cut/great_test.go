package cut_test

import (
	"slices"
	"testing"

	"palings/cut"
)

const many = cut.MaxNodes

func TestManyInARow(t *testing.T) {
	n := cut.Net{Weights: same(many, 9), Ways: chain(row(0, many-1)...), From: list(0), To: list(many - 1)}
	if got := least(t, "a row", n); !slices.Equal(got, list(0)) {
		t.Error(got)
	}
	n.Weights[1234], n.Weights[1700] = 8, 8
	if got := least(t, "a row, lighter in the midst", n); !slices.Equal(got, list(1234)) {
		t.Error(got)
	}
	n.Ways = append(n.Ways, chain(many-1, 0)...)
	n.From, n.To = list(1500), list(1000)
	if got := least(t, "a ring", n); !slices.Equal(got, list(1700)) {
		t.Error(got)
	}
	n.From, n.To = row(0, many-1), row(0, many-1)
	if got := least(t, "all in both", n); !slices.Equal(got, row(0, many-1)) {
		t.Error(len(got))
	}
}

func TestManySideBySide(t *testing.T) {
	n := cut.Net{Weights: same(many, cut.MaxWeight), From: row(0, many/2-1), To: row(many/2, many-1)}
	for p := range many / 2 {
		n.Ways = append(n.Ways, chain(p, many/2+p)...)
		n.Weights[many/2+p] -= int64(p % 2)
	}
	got := least(t, "pairs", n)
	var want []int
	for p := range many / 2 {
		want = append(want, p+p%2*many/2) // the nearer one, if the farther one isn't lighter
	}
	slices.Sort(want)
	if !slices.Equal(got, want) || n.Weight(got) != many/2*cut.MaxWeight-many/4 {
		t.Error(len(got), n.Weight(got))
	}
	fan := cut.Net{Weights: same(many, 1), From: list(0), To: list(many - 1)}
	fan.Weights[0], fan.Weights[many-1] = many-1, many-1
	for p := 1; p < many-1; p++ {
		fan.Ways = append(fan.Ways, chain(0, p, many-1)...)
	}
	if got := least(t, "a fan", fan); !slices.Equal(got, row(1, many-2)) {
		t.Error(len(got))
	}
	fan.Weights[0]--
	if got := least(t, "a fan, as heavy as its beginning", fan); !slices.Equal(got, list(0)) {
		t.Error(len(got))
	}
}

// Each place has ways to all, so there are as many ways as can be.
func TestAllToAll(t *testing.T) {
	n := cut.Net{Weights: same(many, 5), From: list(7), To: list(1999)}
	for p := range many {
		for q := range many {
			n.Ways = append(n.Ways, [2]int{p, q})
		}
	}
	if got := least(t, "all to all", n); !slices.Equal(got, list(7)) {
		t.Error(got)
	}
	n.Weights[1999] = 4
	if got := least(t, "all to all, the end is lighter", n); !slices.Equal(got, list(1999)) {
		t.Error(got)
	}
}

// Each end is a step farther than the one ahead, and ways go back to all places ahead: to go through all ways for each end would take too long.
func TestFartherAndFarther(t *testing.T) {
	n := cut.Net{Weights: same(many, 1), From: list(0), To: row(many/2, many-1)}
	for p := range many / 2 {
		n.Weights[p] = many
		n.Ways = append(n.Ways, chain(p, many/2+p)...)
		for q := range min(p+2, many/2) {
			n.Ways = append(n.Ways, chain(p, q)...)
		}
	}
	if got := least(t, "a comb", n); !slices.Equal(got, row(many/2, many-1)) {
		t.Error(len(got))
	}
}
