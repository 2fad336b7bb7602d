package flow_test

import (
	"fmt"
	"math"
	"math/rand"
	"reflect"
	"testing"

	"palings/flow"
	"palings/ssa"
)

// ask holds all that a graph tells of its blocks, and of some that aren't there, against what it is to tell.
func ask(t *testing.T, g *flow.Graph, outs, ins [][]int) {
	t.Helper()
	n := len(outs)
	if g.Len() != n {
		t.Error("Len", g.Len(), "want", n)
	}
	for b := range n {
		if fmt.Sprint(g.Outs(b)) != fmt.Sprint(outs[b]) || fmt.Sprint(g.Ins(b)) != fmt.Sprint(ins[b]) {
			t.Error(b, "Outs", g.Outs(b), "Ins", g.Ins(b), "want", outs[b], ins[b])
		}
	}
	for _, b := range []int{math.MinInt, -n - 1, -n, -2, -1, n, n + 1, 2*n + 7, math.MaxInt} {
		if b >= 0 && b < n {
			continue
		}
		if len(g.Outs(b)) != 0 || len(g.Ins(b)) != 0 {
			t.Error("no block", b, g.Outs(b), g.Ins(b))
		}
	}
}

func TestOutsAndIns(t *testing.T) {
	ask(t, graph(), nil, nil)
	ask(t, graph(to()), [][]int{{}}, [][]int{{}})
	ask(t, graph(to(0)), [][]int{{0}}, [][]int{{0}})
	ask(t, graph(to(1), to()), [][]int{{1}, {}}, [][]int{{}, {0}})
	ask(t, graph(to(1, 1), to()), [][]int{{1, 1}, {}}, [][]int{{}, {0, 0}})
	ask(t, graph(to(2, 1), to(2, 2), to(1, 0)), [][]int{{2, 1}, {2, 2}, {1, 0}}, [][]int{{2}, {0, 2}, {0, 1, 1}})
	ask(t, graph(to(3, 1, 3), to(3), to(3, 2), to()), [][]int{{3, 1, 3}, {3}, {3, 2}, {}}, [][]int{{}, {0}, {2}, {0, 0, 1, 2}})
}

func TestWaysToNoBlock(t *testing.T) {
	ask(t, graph(to(-1, 1, 2), to(math.MaxInt, 0, math.MinInt)), [][]int{{1}, {0}}, [][]int{{1}, {0}})
	ask(t, graph(to(1, -1)), [][]int{{}}, [][]int{{}})
	g := graph(to(-1, 1, 3), to(3, 4), to(1, -2))
	ask(t, g, [][]int{{1}, {}, {1}}, [][]int{{}, {0, 2}, {}})
	if got := fmt.Sprint(g.Order(), g.Depths(), g.Doms()); got != "[0 1] [0 0 0] [[true false false] [true true false] [false false false]]" {
		t.Error(got)
	}
}

// However a block ends, its ways are those that it has.
func TestAnyEnd(t *testing.T) {
	f := function([][]int{{1}, {2, 0}, {}})
	want := fmt.Sprint(flow.New(f).Doms())
	for kind := ssa.Ends(-1); kind < 6; kind++ {
		for b := range f.Blocks {
			f.Blocks[b].End.Kind = kind
		}
		g := flow.New(f)
		ask(t, g, [][]int{{1}, {2, 0}, {}}, [][]int{{1}, {0}, {1}})
		if got := fmt.Sprint(g.Doms()); got != want {
			t.Error(kind, got)
		}
	}
}

func TestNil(t *testing.T) {
	for _, g := range []*flow.Graph{nil, {}, flow.New(ssa.Func{}), flow.New(ssa.Func{Name: "f", Blocks: []ssa.Block{}})} {
		ask(t, g, nil, nil)
		if len(g.Doms()) != 0 || len(g.Depths()) != 0 || len(g.Order()) != 0 {
			t.Error(g, g.Doms(), g.Depths(), g.Order())
		}
	}
}

func TestExample(t *testing.T) {
	g := graph(to(1), to(2, 3), to(1), to())
	if got := fmt.Sprint(g.Depths()); got != "[0 1 1 0]" {
		t.Error(got)
	}
}

// rows is the blocks that are on each way to each block.
func rows(g *flow.Graph) [][]int {
	out := [][]int{}
	for _, row := range g.Doms() {
		list := []int{}
		for a, on := range row {
			if on {
				list = append(list, a)
			}
		}
		if len(row) != g.Len() {
			list = append(list, -len(row))
		}
		out = append(out, list)
	}
	return out
}

var graphs = []struct {
	what   string
	outs   [][]int
	doms   string
	depths string
	order  string
}{
	{"one block", [][]int{{}}, "[[0]]", "[0]", "[0]"},
	{"one that goes to itself", [][]int{{0}}, "[[0]]", "[1]", "[0]"},
	{"one that goes to itself twice", [][]int{{1}, {1, 1}}, "[[0] [0 1]]", "[0 1]", "[0 1]"},
	{"one that nothing comes to", [][]int{{}, {0}}, "[[0] []]", "[0 0]", "[0]"},
	{"one that nothing comes to but itself", [][]int{{2}, {1, 2}, {}}, "[[0] [] [0 2]]", "[0 0 0]", "[0 2]"},
	{"a ring that nothing comes to", [][]int{{}, {2}, {3}, {1, 0}}, "[[0] [] [] []]", "[0 0 0 0]", "[0]"},
	{"a choice, both ways meet", [][]int{{1, 2}, {3}, {3}, {}}, "[[0] [0 1] [0 2] [0 3]]", "[0 0 0 0]", "[0 2 1 3]"},
	{"a choice, the other way round", [][]int{{2, 1}, {3}, {3}, {}}, "[[0] [0 1] [0 2] [0 3]]", "[0 0 0 0]", "[0 1 2 3]"},
	{"a choice, both ways are one", [][]int{{1, 1}, {2}, {}}, "[[0] [0 1] [0 1 2]]", "[0 0 0]", "[0 1 2]"},
	{"a choice, one way is both sides", [][]int{{1, 2}, {2}, {}}, "[[0] [0 1] [0 2]]", "[0 0 0]", "[0 1 2]"},
	{"a choice, the second way is both sides", [][]int{{2, 1}, {2}, {}}, "[[0] [0 1] [0 2]]", "[0 0 0]", "[0 1 2]"},
	{"a loop", [][]int{{1}, {2, 3}, {1}, {}}, "[[0] [0 1] [0 1 2] [0 1 3]]", "[0 1 1 0]", "[0 1 3 2]"},
	{"a loop, its end first", [][]int{{1}, {3, 2}, {1}, {}}, "[[0] [0 1] [0 1 2] [0 1 3]]", "[0 1 1 0]", "[0 1 2 3]"},
	{"a loop of the first block", [][]int{{1}, {0, 2}, {}}, "[[0] [0 1] [0 1 2]]", "[1 1 0]", "[0 1 2]"},
	{"a loop, two ways back", [][]int{{1}, {2, 3}, {1, 4}, {1}, {}}, "[[0] [0 1] [0 1 2] [0 1 3] [0 1 2 4]]", "[0 1 1 1 0]", "[0 1 3 2 4]"},
	{"a loop with a choice in it", [][]int{{1}, {2, 3}, {4}, {4}, {1, 5}, {}}, "[[0] [0 1] [0 1 2] [0 1 3] [0 1 4] [0 1 4 5]]", "[0 1 1 1 1 0]", "[0 1 3 2 4 5]"},
	{"a loop, ways out of its midst, one to another loop", [][]int{{1}, {2, 5}, {3, 6}, {4, 7}, {1}, {}, {}, {7}}, "[[0] [0 1] [0 1 2] [0 1 2 3] [0 1 2 3 4] [0 1 5] [0 1 2 6] [0 1 2 3 7]]", "[0 1 1 1 1 0 0 1]", "[0 1 5 2 6 3 7 4]"},
	{"loops within each other", [][]int{{1}, {2, 7}, {3, 6}, {4, 5}, {3}, {2}, {1}, {}}, "[[0] [0 1] [0 1 2] [0 1 2 3] [0 1 2 3 4] [0 1 2 3 5] [0 1 2 6] [0 1 7]]", "[0 1 2 3 3 2 1 0]", "[0 1 7 2 6 3 5 4]"},
	{"loops that end in one block", [][]int{{1}, {2}, {3}, {1, 2, 3, 4}, {}}, "[[0] [0 1] [0 1 2] [0 1 2 3] [0 1 2 3 4]]", "[0 1 2 3 0]", "[0 1 2 3 4]"},
	{"two loops with one top", [][]int{{1}, {2, 3, 4}, {1}, {1}, {}}, "[[0] [0 1] [0 1 2] [0 1 3] [0 1 4]]", "[0 1 1 1 0]", "[0 1 4 3 2]"},
	{"two loops side by side", [][]int{{1}, {2, 3}, {1}, {4, 5}, {3}, {}}, "[[0] [0 1] [0 1 2] [0 1 3] [0 1 3 4] [0 1 3 5]]", "[0 1 1 1 1 0]", "[0 1 3 5 4 2]"},
	{"two loops in one", [][]int{{1}, {2, 6}, {3, 4}, {2}, {5, 1}, {4}, {}}, "[[0] [0 1] [0 1 2] [0 1 2 3] [0 1 2 4] [0 1 2 4 5] [0 1 6]]", "[0 1 2 2 2 2 0]", "[0 1 6 2 4 5 3]"},
	{"a ring that is entered at two places", [][]int{{1, 2}, {2}, {1, 3}, {}}, "[[0] [0 1] [0 2] [0 2 3]]", "[0 0 0 0]", "[0 1 2 3]"},
	{"such a ring in a loop", [][]int{{1}, {2, 3}, {3}, {2, 4}, {1}}, "[[0] [0 1] [0 1 2] [0 1 3] [0 1 3 4]]", "[0 1 1 1 1]", "[0 1 2 3 4]"},
	{"a loop in such a ring", [][]int{{1, 2}, {2, 1}, {1, 3}, {2, 4}, {}}, "[[0] [0 1] [0 2] [0 2 3] [0 2 3 4]]", "[0 1 1 1 0]", "[0 1 2 3 4]"},
	{"a loop, a way to its midst from where nothing comes", [][]int{{1}, {2, 3}, {1}, {}, {2, 4}}, "[[0] [0 1] [0 1 2] [0 1 3] []]", "[0 1 1 0 0]", "[0 1 3 2]"},
	{"numbers the other way round", [][]int{{4}, {}, {3}, {4, 2}, {3, 1}}, "[[0] [0 1 4] [0 2 3 4] [0 3 4] [0 4]]", "[0 0 2 2 1]", "[0 4 1 3 2]"},
}

func TestGraphs(t *testing.T) {
	for _, c := range graphs {
		g := flow.New(function(c.outs))
		if got := fmt.Sprint(rows(g)); got != c.doms {
			t.Error(c.what, "Doms", got, "want", c.doms)
		}
		if got := fmt.Sprint(g.Depths()); got != c.depths {
			t.Error(c.what, "Depths", got, "want", c.depths)
		}
		if got := fmt.Sprint(g.Order()); got != c.order {
			t.Error(c.what, "Order", got, "want", c.order)
		}
	}
}

func TestMadeGraphs(t *testing.T) {
	deep, few := 0, 0
	for seed := range int64(20000) {
		outs := madeGraph(seed)
		g := flow.New(function(outs))
		if want := doms(outs); !reflect.DeepEqual(g.Doms(), want) {
			t.Fatal(outs, "Doms", g.Doms(), "want", want)
		}
		want := depths(outs)
		if !reflect.DeepEqual(g.Depths(), want) {
			t.Fatal(outs, "Depths", g.Depths(), "want", want)
		}
		if want := order(outs); !reflect.DeepEqual(g.Order(), want) {
			t.Fatal(outs, "Order", g.Order(), "want", want)
		}
		for _, d := range want {
			if d > 2 {
				deep++
			}
		}
		if len(g.Order()) < len(outs) {
			few++
		}
	}
	if deep < 300 || few < 1000 {
		t.Error("few loops within each other, or all blocks are come to:", deep, few)
	}
}

// Great loops within each other, of which a block goes back to many tops, made of choices and loops, and some other ways.
func TestMadeLoops(t *testing.T) {
	for seed := range int64(300) {
		r := rand.New(rand.NewSource(seed))
		outs := make([][]int, 30+r.Intn(30))
		for b := range outs {
			if b+1 < len(outs) {
				outs[b] = append(outs[b], b+1)
			}
			if r.Intn(3) == 0 {
				outs[b] = append(outs[b], r.Intn(b+1))
			}
			if r.Intn(8) == 0 {
				outs[b] = append(outs[b], min(len(outs)-1, b+r.Intn(5)))
			}
		}
		g := flow.New(function(outs))
		if want := depths(outs); !reflect.DeepEqual(g.Depths(), want) {
			t.Fatal(outs, "Depths", g.Depths(), "want", want)
		}
	}
}

// What is told is new each time, and nothing of it is a piece of the graph, or of the function.
func TestNothingIsShared(t *testing.T) {
	f := function([][]int{{1, 2}, {2, 3}, {1, 3}, {1}})
	before := fmt.Sprintf("%#v", f)
	g := flow.New(f)
	tell := func() string {
		return fmt.Sprint(g.Len(), g.Outs(0), g.Outs(1), g.Ins(1), g.Ins(3), g.Doms(), g.Depths(), g.Order())
	}
	was := tell()
	for _, list := range [][]int{g.Outs(0), g.Outs(1), g.Ins(1), g.Ins(3), g.Depths(), g.Order()} {
		for k := range list[:cap(list)] {
			list[:cap(list)][k] = -7
		}
	}
	all := g.Doms()
	for b, row := range all {
		for k := range row[:cap(row)] {
			row[:cap(row)][k] = true
		}
		for other := range all {
			if other > b && fmt.Sprint(all[other]) != fmt.Sprint(g.Doms()[other]) {
				t.Error("rows", b, "and", other, "are one")
			}
		}
	}
	if got := tell(); got != was {
		t.Error(got, "was", was)
	}
	if fmt.Sprintf("%#v", f) != before {
		t.Error("the function was changed")
	}
	f.Blocks[0].End.Ways[0].To = 3
	f.Blocks[1].End.Ways = nil
	f.Blocks = append(f.Blocks[:2], ssa.Block{})
	if got := tell(); got != was {
		t.Error(got, "was", was)
	}
}
