package cut_test

import (
	"math"
	"testing"

	"palings/cut"
)

// three is a net that is right, which tests spoil.
func three() cut.Net {
	return cut.Net{Weights: weights(5, 2, 3), Ways: chain(0, 1, 2), From: list(0), To: list(2)}
}

func TestLimits(t *testing.T) {
	if cut.MaxNodes != 2000 || cut.MaxWeight != 1073741824 {
		t.Error(cut.MaxNodes, cut.MaxWeight)
	}
}

func TestRight(t *testing.T) {
	for what, n := range map[string]cut.Net{
		"no places":                  {},
		"no places, empty lists":     {Weights: weights(), Ways: ways(), From: list(), To: list()},
		"one place":                  {Weights: weights(1)},
		"three":                      three(),
		"no ways":                    {Weights: weights(1, 2), From: list(0), To: list(1)},
		"no From":                    {Weights: weights(1, 2), Ways: chain(0, 1), To: list(1)},
		"no To":                      {Weights: weights(1, 2), Ways: chain(0, 1), From: list(1)},
		"the least weight":           {Weights: weights(1)},
		"the greatest weight":        {Weights: weights(1 << 30)},
		"a way to itself":            {Weights: weights(1, 1), Ways: chain(1, 1)},
		"a way twice":                {Weights: weights(1, 1), Ways: chain(0, 1, 0, 1)},
		"one in From and To, twice":  {Weights: weights(1, 1), From: list(1, 1), To: list(0, 1, 0, 1)},
		"2000 places":                {Weights: same(2000, 1), Ways: chain(1999, 0), From: list(1999), To: list(1999)},
		"2000 of the greatest":       {Weights: same(2000, 1<<30)},
		"more in lists than places":  {Weights: weights(1), Ways: chain(make([]int, 3000)...), From: make([]int, 3000), To: make([]int, 3000)},
		"the first and the last one": {Weights: weights(1, 1, 1), Ways: chain(0, 2, 0), From: list(0, 2), To: list(2, 0)},
	} {
		if !n.Right() {
			t.Error(what)
		}
		if _, ok := cut.Least(n); !ok {
			t.Error(what, "Least")
		}
		if !n.Cuts(row(0, 1999)) {
			t.Error(what, "Cuts")
		}
	}
}

// faults is nets that aren't right, by one thing each.
func faults() map[string]func(n *cut.Net) {
	out := map[string]func(n *cut.Net){
		"2001 places":           func(n *cut.Net) { n.Weights = same(2001, 1) },
		"very many places":      func(n *cut.Net) { n.Weights = same(100000, 1) },
		"2001 places, no more":  func(n *cut.Net) { *n = cut.Net{Weights: same(2001, 1)} },
		"no places, but a way":  func(n *cut.Net) { *n = cut.Net{Ways: chain(0, 0)} },
		"no places, but a From": func(n *cut.Net) { *n = cut.Net{From: list(0)} },
		"no places, but a To":   func(n *cut.Net) { *n = cut.Net{To: list(0)} },
	}
	for what, w := range map[string]int64{"nought": 0, "below": -1, "far below": math.MinInt64, "above": 1<<30 + 1, "1 above 32 bits": 1<<32 + 1, "far above": math.MaxInt64} {
		out["the first weight "+what] = func(n *cut.Net) { n.Weights[0] = w }
		out["the last weight "+what] = func(n *cut.Net) { n.Weights[2] = w }
	}
	for what, p := range map[string]int{"-1": -1, "3": 3, "1 above 32 bits": 1<<32 + 1, "the least": math.MinInt, "the greatest": math.MaxInt} {
		out["a way from "+what] = func(n *cut.Net) { n.Ways[0][0] = p }
		out["a way to "+what] = func(n *cut.Net) { n.Ways[0][1] = p }
		out["the last way from "+what] = func(n *cut.Net) { n.Ways[1][0] = p }
		out["the last way to "+what] = func(n *cut.Net) { n.Ways[1][1] = p }
		out["From "+what] = func(n *cut.Net) { n.From = list(p) }
		out["To "+what] = func(n *cut.Net) { n.To = list(p) }
		out["at last From "+what] = func(n *cut.Net) { n.From = list(0, 1, p) }
		out["at last To "+what] = func(n *cut.Net) { n.To = list(0, 1, p) }
		out["at first From "+what] = func(n *cut.Net) { n.From = list(p, 1) }
		out["at first To "+what] = func(n *cut.Net) { n.To = list(p, 1) }
	}
	return out
}

func TestNotRight(t *testing.T) {
	for what, spoil := range faults() {
		n := three()
		spoil(&n)
		if n.Right() {
			t.Error(what, "Right")
		}
		for _, l := range [][]int{nil, list(0), list(0, 1, 2), list(-1, 3), row(0, 3000)} {
			if n.Cuts(l) {
				t.Error(what, "Cuts", l)
			}
		}
		if c, ok := cut.Least(n); c != nil || ok {
			t.Error(what, "Least", c, ok)
		}
	}
}

func TestWeight(t *testing.T) {
	n := three()
	for _, c := range []struct {
		list []int
		want int64
	}{
		{nil, 0}, {list(), 0}, {list(0), 5}, {list(1), 2}, {list(2), 3}, {list(2, 0), 8}, {list(0, 1, 2), 10},
		{list(1, 1), 4}, {list(2, 0, 2, 2), 14}, {list(3), 0}, {list(-1), 0}, {list(-1, 1, 3, math.MaxInt, math.MinInt, 2), 5},
	} {
		if got := n.Weight(c.list); got != c.want {
			t.Error(c.list, got, c.want)
		}
	}
	great := cut.Net{Weights: same(2000, 1<<30)}
	if got := great.Weight(row(-5, 2005)); got != 2000<<30 {
		t.Error(got)
	}
	if got := great.Weight(append(row(0, 1999), row(0, 1999)...)); got != 4000<<30 {
		t.Error(got)
	}
	if got := (cut.Net{}).Weight(list(0, -1, 1)); got != 0 {
		t.Error(got)
	}
}

// Of a net that isn't right the weight is still that of what are places.
func TestWeightOfWhatIsNotRight(t *testing.T) {
	for what, spoil := range faults() {
		n := three()
		spoil(&n)
		want := int64(0)
		for _, w := range n.Weights {
			want += w
		}
		if got := n.Weight(row(-3, len(n.Weights)+3)); got != want {
			t.Error(what, got, want)
		}
	}
}
