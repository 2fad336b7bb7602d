package sim_test

import (
	"fmt"
	"math"
	"reflect"
	"slices"
	"testing"

	"palings/ast"
	"palings/sim"
	"palings/ssa"
)

func array(h ast.Hold, size int) ssa.Array { return ssa.Array{Name: "g", Hold: h, Size: size} }

func arrays(a ...ssa.Array) ssa.Prog { return ssa.Prog{Arrays: a} }

func TestStartSizes(t *testing.T) {
	full := slices.Repeat([]int64{5}, 5000)
	for size, want := range map[int]int{
		math.MinInt: 1, -4096: 1, -1: 1, 0: 1, 1: 1, 2: 2, 7: 7, 4095: 4095, 4096: 4096, 4097: 4096, math.MaxInt: 4096,
	} {
		for h, filled := range map[ast.Hold]int64{ast.Own: 0, ast.Open: 5, ast.Closed: 5, -1: 0, 3: 0} {
			mem := sim.Start(arrays(array(h, size)), [][]int64{full})
			if len(mem) != 1 || !slices.Equal(mem[0], slices.Repeat([]int64{filled}, want)) {
				t.Error(size, h, mem)
			}
		}
	}
}

func TestStartInputs(t *testing.T) {
	own, open, closed := ast.Own, ast.Open, ast.Closed
	for _, c := range []struct {
		a    []ssa.Array
		in   [][]int64
		want string
	}{
		{nil, nil, "[]"},
		{nil, [][]int64{{1}}, "[]"},
		{[]ssa.Array{array(open, 0)}, nil, "[[0]]"},
		{[]ssa.Array{array(open, 0)}, [][]int64{}, "[[0]]"},
		{[]ssa.Array{array(open, 0)}, [][]int64{nil, {7}}, "[[0]]"},
		{[]ssa.Array{array(open, 0)}, [][]int64{{}}, "[[0]]"},
		{[]ssa.Array{array(open, 0)}, [][]int64{{7}}, "[[7]]"},
		{[]ssa.Array{array(open, 0)}, [][]int64{{7, 8}}, "[[7]]"},
		{[]ssa.Array{array(closed, 0)}, [][]int64{{-7}, {8}}, "[[-7]]"},
		{[]ssa.Array{array(own, 0)}, [][]int64{{7}}, "[[0]]"},
		{[]ssa.Array{array(own, 3)}, [][]int64{{7, 8, 9}}, "[[0 0 0]]"},
		{[]ssa.Array{array(closed, 3)}, [][]int64{{}}, "[[0 0 0]]"},
		{[]ssa.Array{array(closed, 3)}, [][]int64{{1, 2}}, "[[1 2 0]]"},
		{[]ssa.Array{array(closed, 3)}, [][]int64{{1, 2, 3}}, "[[1 2 3]]"},
		{[]ssa.Array{array(closed, 3)}, [][]int64{{1, 2, 3, 4}}, "[[1 2 3]]"},
		{[]ssa.Array{array(open, -2)}, [][]int64{{1, 2, 3, 4}}, "[[1]]"},
		{[]ssa.Array{array(open, 1)}, [][]int64{{math.MinInt64}}, "[[-9223372036854775808]]"},
		{[]ssa.Array{array(own, 2), array(open, 2), array(own, 0), array(closed, 2)}, [][]int64{{1, 2}, {3, 4}}, "[[0 0] [1 2] [0] [3 4]]"},
		{[]ssa.Array{array(closed, 0), array(own, 1), array(open, 2), array(closed, 1)}, [][]int64{{1, 2}, {3}, {4}}, "[[1] [0] [3 0] [4]]"},
		{[]ssa.Array{array(open, 0), array(closed, 0), array(open, 0)}, [][]int64{{1}, {2}}, "[[1] [2] [0]]"},
		{[]ssa.Array{array(closed, 0), array(open, 0), array(closed, 0)}, [][]int64{{}, {}, {3}}, "[[0] [0] [3]]"},
		{[]ssa.Array{array(open, 0), array(open, 0)}, [][]int64{{1}, {2}, {3}, {4}}, "[[1] [2]]"},
		{[]ssa.Array{array(-1, 0), array(3, 0), array(open, 0)}, [][]int64{{1}, {2}, {3}}, "[[0] [0] [1]]"},
	} {
		before := fmt.Sprint(c.in)
		if got := fmt.Sprint(sim.Start(arrays(c.a...), c.in)); got != c.want {
			t.Error(c.a, c.in, got, "want", c.want)
		}
		if fmt.Sprint(c.in) != before {
			t.Error(c.in, "isn't what it was:", before)
		}
	}
}

// Start asks nothing of the rest of a program.
func TestStartOfWrongPrograms(t *testing.T) {
	p := arrays(array(ast.Open, 2), array(ast.Open, 2))
	p.Main, p.Funcs = -4, []ssa.Func{{}, {Blocks: []ssa.Block{{}}}}
	if got := fmt.Sprint(sim.Start(p, [][]int64{{1, 2}, {3, 4}})); got != "[[1 2] [3 4]]" {
		t.Error(got)
	}
}

// What Start answers, and what Run answers as Mem, shares nothing with what is handed in, nor list with list.
func TestMemoryIsNew(t *testing.T) {
	p := arrays(array(ast.Open, 3), array(ast.Own, 2), array(ast.Closed, 0), array(ast.Open, 3))
	p.Funcs = []ssa.Func{fn("main", block(nil, ret(1), num(1, 2), store(0, 1, 1), set(2, 1), store(3, 1, 1)))}
	shared := []int64{1, 2, 3, 4}
	in := [][]int64{shared, shared[1:], shared}
	first := sim.Start(p, in)
	r, e := sim.Run(p, in, plenty)
	if e != 0 || fmt.Sprint(r.Mem) != "[[1 2 2] [0 0] [2] [1 2 2]]" {
		t.Fatal(e, r.Mem)
	}
	if !slices.Equal(shared, []int64{1, 2, 3, 4}) || len(in) != 3 || &in[1][0] != &shared[1] {
		t.Fatal(in)
	}
	for _, mem := range [][][]int64{first, r.Mem} {
		for i := range mem {
			others := fmt.Sprint(mem[:i], mem[i+1:], shared)
			mem[i] = append(mem[i], 77)
			for k := range mem[i] {
				mem[i][k] = 66
			}
			if fmt.Sprint(mem[:i], mem[i+1:], shared) != others {
				t.Error(i, "shares its words")
			}
		}
	}
	if again := sim.Start(p, in); !reflect.DeepEqual(again, [][]int64{{1, 2, 3}, {0, 0}, {2}, {1, 2, 3}}) {
		t.Error(again)
	}
}
