package cut_test

import (
	"slices"
	"testing"

	"palings/cut"
)

func TestExample(t *testing.T) {
	if got := least(t, "the example", three()); !slices.Equal(got, list(1)) {
		t.Error(got)
	}
}

func TestLeast(t *testing.T) {
	for _, c := range []struct {
		what string
		n    cut.Net
		want []int
	}{
		{"no places", cut.Net{}, nil},
		{"places alone", cut.Net{Weights: weights(1, 2)}, nil},
		{"no From", cut.Net{Weights: weights(1, 1), Ways: chain(0, 1), To: list(1)}, nil},
		{"no To", cut.Net{Weights: weights(1, 1), Ways: chain(0, 1), From: list(0)}, nil},
		{"no way", cut.Net{Weights: weights(1, 1), From: list(0), To: list(1)}, nil},
		{"a way that goes back alone", cut.Net{Weights: weights(1, 1), Ways: chain(1, 0), From: list(0), To: list(1)}, nil},
		{"one in both", cut.Net{Weights: weights(5), From: list(0), To: list(0)}, list(0)},
		{"one in both, and another one", cut.Net{Weights: weights(9, 5), From: list(1), To: list(1)}, list(1)},
		{"all in both", cut.Net{Weights: weights(3, 1, 2), Ways: chain(0, 1, 2), From: row(0, 2), To: row(0, 2)}, row(0, 2)},
		{"the beginning is lightest", cut.Net{Weights: weights(1, 2, 3), Ways: chain(0, 1, 2), From: list(0), To: list(2)}, list(0)},
		{"the end is lightest", cut.Net{Weights: weights(3, 2, 1), Ways: chain(0, 1, 2), From: list(0), To: list(2)}, list(2)},
		{"all are alike: the nearest", cut.Net{Weights: weights(7, 7, 7), Ways: chain(0, 1, 2), From: list(0), To: list(2)}, list(0)},
		{"the other way round", cut.Net{Weights: weights(7, 7, 7), Ways: chain(2, 1, 0), From: list(2), To: list(0)}, list(2)},
		{"two lightest in the midst", cut.Net{Weights: weights(9, 4, 5, 4, 9), Ways: chain(0, 1, 2, 3, 4), From: list(0), To: list(4)}, list(1)},
		{"two against one, as much", cut.Net{Weights: weights(2, 3, 5), Ways: append(chain(0, 2), chain(1, 2)...), From: list(0, 1), To: list(2)}, list(0, 1)},
		{"two against one that is lighter", cut.Net{Weights: weights(2, 3, 4), Ways: append(chain(0, 2), chain(1, 2)...), From: list(0, 1), To: list(2)}, list(2)},
		{"one against two, as much", cut.Net{Weights: weights(5, 2, 3), Ways: append(chain(0, 1), chain(0, 2)...), From: list(0), To: list(1, 2)}, list(0)},
		{"one against two that are lighter", cut.Net{Weights: weights(6, 2, 3), Ways: append(chain(0, 1), chain(0, 2)...), From: list(0), To: list(1, 2)}, list(1, 2)},
		{"near on one way, far on the other one", cut.Net{Weights: weights(9, 2, 3, 9, 3, 2, 9), Ways: append(chain(0, 1, 2, 3), chain(3, 4, 5, 6)...), From: list(0, 3), To: list(3, 6)}, list(3)},
		{"each way by itself", cut.Net{Weights: weights(9, 2, 3, 9, 3, 2), Ways: append(chain(0, 1, 2), chain(3, 4, 5)...), From: list(0, 3), To: list(2, 5)}, list(1, 5)},
		{"places that nothing comes to are left out", cut.Net{Weights: weights(9, 1, 9, 1, 1), Ways: append(chain(0, 2), chain(1, 2, 3)...), From: list(0), To: list(2)}, list(0)},
		{"places that come to no end are left out", cut.Net{Weights: weights(9, 1, 8), Ways: append(chain(0, 1), chain(0, 2)...), From: list(0), To: list(2)}, list(2)},
		{"From and To twice", cut.Net{Weights: weights(5, 2, 3), Ways: chain(0, 1, 2), From: list(0, 0, 0), To: list(2, 2)}, list(1)},
		{"To twice, and lightest", cut.Net{Weights: weights(5, 4, 3), Ways: chain(0, 1, 2), From: list(0), To: list(2, 2)}, list(2)},
		{"From twice, and lightest", cut.Net{Weights: weights(3, 4, 5), Ways: chain(0, 1, 2), From: list(0, 0), To: list(2)}, list(0)},
		{"ways twice", cut.Net{Weights: weights(5, 2, 3), Ways: chain(0, 1, 0, 1, 2, 1, 2), From: list(0), To: list(2)}, list(1)},
		{"ways to themselves", cut.Net{Weights: weights(5, 2, 3), Ways: chain(0, 0, 1, 1, 2, 2), From: list(0), To: list(2)}, list(1)},
		{"a way to itself alone", cut.Net{Weights: weights(5), Ways: chain(0, 0), From: list(0), To: list(0)}, list(0)},
		{"a way to itself, and no end", cut.Net{Weights: weights(5, 5), Ways: chain(0, 0), From: list(0), To: list(1)}, nil},
		{"a ring", cut.Net{Weights: weights(9, 5, 9, 4), Ways: chain(0, 1, 2, 3, 0), From: list(0), To: list(2)}, list(1)},
		{"a ring, and the end is ahead of the beginning", cut.Net{Weights: weights(9, 5, 9, 4), Ways: chain(0, 1, 2, 3, 0), From: list(2), To: list(0)}, list(3)},
		{"a ring that ends where it begins", cut.Net{Weights: weights(9, 5, 4), Ways: chain(0, 1, 2, 0), From: list(0), To: list(0)}, list(0)},
		{"a ring behind the lightest", cut.Net{Weights: weights(9, 1, 2, 2, 9), Ways: append(chain(0, 1, 2, 3, 4), chain(3, 2)...), From: list(0), To: list(4)}, list(1)},
		{"an end behind an end", cut.Net{Weights: weights(9, 2, 1), Ways: chain(0, 1, 2), From: list(0), To: list(1, 2)}, list(1)},
		{"a beginning ahead of a beginning", cut.Net{Weights: weights(1, 2, 9), Ways: chain(0, 1, 2), From: list(0, 1), To: list(2)}, list(1)},
		{"flow must be sent back", cut.Net{Weights: weights(1, 1, 1, 1), Ways: append(chain(0, 3), append(chain(0, 2), chain(1, 3)...)...), From: list(0, 1), To: list(2, 3)}, list(0, 1)},
		{"bits beyond a word", cut.Net{Weights: same(200, 3), Ways: append(chain(63, 64, 127, 128, 199), chain(0, 65, 199)...), From: list(63, 0), To: list(199)}, list(199)},
	} {
		if got := least(t, c.what, c.n); !slices.Equal(got, c.want) {
			t.Error(c.what, got, c.want)
		}
	}
}

// What is handed out is nobody else's.
func TestLeastIsNew(t *testing.T) {
	n := three()
	first, _ := cut.Least(n)
	first[0] = 77
	if again, _ := cut.Least(n); !slices.Equal(again, list(1)) || !slices.Equal(n.From, list(0)) || !slices.Equal(n.To, list(2)) {
		t.Error(again, n)
	}
}

func TestWeightsBeyond31Bits(t *testing.T) {
	const most = cut.MaxWeight
	for _, k := range []int{2, 3, 4, 5, 8, 999} {
		fan := cut.Net{Weights: same(2*k+1, most), From: row(0, k-1), To: row(k+1, 2*k)}
		for p := range k {
			fan.Ways = append(fan.Ways, chain(p, k, k+1+p)...)
		}
		if got := least(t, "all through one", fan); !slices.Equal(got, list(k)) {
			t.Error(k, got)
		}
		apart := cut.Net{Weights: same(2*k, most), From: row(0, k-1), To: row(k, 2*k-1)}
		for p := range k {
			for q := range k {
				apart.Ways = append(apart.Ways, chain(p, k+q)...)
			}
		}
		apart.Weights[2*k-1]--
		got := least(t, "all to all", apart)
		if !slices.Equal(got, row(k, 2*k-1)) || apart.Weight(got) != int64(k)*most-1 {
			t.Error(k, got)
		}
	}
}
