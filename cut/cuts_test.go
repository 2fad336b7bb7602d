package cut_test

import (
	"math"
	"slices"
	"testing"

	"palings/cut"
)

// far is two ways from 0 to 5, by 1 and 2, and by 3 and 4, which has a ring.
func far() cut.Net {
	return cut.Net{
		Weights: weights(1, 1, 1, 1, 1, 1),
		Ways:    append(chain(0, 1, 2, 5), append(chain(0, 3, 4, 5), chain(4, 3)...)...),
		From:    list(0), To: list(5),
	}
}

func TestCuts(t *testing.T) {
	apart := cut.Net{Weights: weights(1, 1, 1), Ways: chain(2, 1, 0), From: list(0), To: list(2)}
	both := cut.Net{Weights: weights(1, 1, 1), Ways: chain(0, 1, 2), From: list(0, 1), To: list(1, 2)}
	self := cut.Net{Weights: weights(1, 1), Ways: ways([2]int{0, 0}, [2]int{1, 1}), From: list(0), To: list(1)}
	for _, c := range []struct {
		what string
		n    cut.Net
		list []int
		want bool
	}{
		{"no places", cut.Net{}, nil, true},
		{"no places, and a list", cut.Net{}, list(0, -1, 5), true},
		{"nothing", three(), nil, false},
		{"the beginning", three(), list(0), true},
		{"the midst", three(), list(1), true},
		{"the end", three(), list(2), true},
		{"all", three(), list(2, 1, 0), true},
		{"no place", three(), list(3), false},
		{"no places", three(), list(-1, 3, math.MinInt, math.MaxInt), false},
		{"no places, and one", three(), list(-1, 1, 3), true},
		{"a place twice", three(), list(1, 1), true},
		{"one of two ways", far(), list(1), false},
		{"one of two ways, twice", far(), list(1, 1, 2), false},
		{"the other one, in its ring", far(), list(3, 4), false},
		{"both, at their beginnings", far(), list(1, 3), true},
		{"both, at their ends", far(), list(2, 4), true},
		{"both, crosswise", far(), list(4, 1), true},
		{"where both begin", far(), list(0), true},
		{"where both end", far(), list(5), true},
		{"no way", apart, nil, true},
		{"no way, and a list", apart, list(1), true},
		{"no From", cut.Net{Weights: weights(1), To: list(0)}, nil, true},
		{"no To", cut.Net{Weights: weights(1), From: list(0)}, nil, true},
		{"one in both", cut.Net{Weights: weights(1), From: list(0), To: list(0)}, nil, false},
		{"one in both, cut", cut.Net{Weights: weights(1), From: list(0), To: list(0)}, list(0), true},
		{"one in both, another cut", cut.Net{Weights: weights(1, 1), From: list(0), To: list(0)}, list(1), false},
		{"one in both, in a row", both, list(0, 2), false},
		{"that one", both, list(1), true},
		{"that one and its neighbours", both, list(0, 1, 2), true},
		{"ways to themselves alone", self, nil, true},
		{"a way through another end", cut.Net{Weights: weights(1, 1, 1), Ways: chain(0, 1, 2), From: list(0), To: list(1, 2)}, list(2), false},
		{"a way through another beginning", cut.Net{Weights: weights(1, 1, 1), Ways: chain(0, 1, 2), From: list(0, 1), To: list(2)}, list(0), false},
	} {
		n, l := copied(c.n), slices.Clone(c.list)
		if got := c.n.Cuts(c.list); got != c.want {
			t.Error(c.what, got)
		}
		sameNet(t, c.what, c.n, n)
		if !slices.Equal(l, c.list) {
			t.Error(c.what, "the list was changed")
		}
	}
}
