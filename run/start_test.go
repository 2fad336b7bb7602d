package run_test

import (
	"fmt"
	"math"
	"reflect"
	"slices"
	"testing"

	"palings/ast"
	"palings/run"
)

func global(h ast.Hold, size int) ast.Global { return ast.Global{Name: "g", Hold: h, Size: size} }

func globals(g ...ast.Global) ast.Prog { return ast.Prog{Globals: g} }

func TestStartSizes(t *testing.T) {
	for size, want := range map[int]int{
		math.MinInt: 1, -4096: 1, -1: 1, 0: 1, 1: 1, 2: 2, 7: 7, 4095: 4095, 4096: 4096,
		4097: 4096, 1 << 20: 4096, math.MaxInt: 4096,
	} {
		for _, h := range []ast.Hold{ast.Own, ast.Open, ast.Closed} {
			full := slices.Repeat([]int64{5}, 5000)
			mem := run.Start(globals(global(h, size)), [][]int64{full})
			if len(mem) != 1 || len(mem[0]) != want {
				t.Fatal(size, h, len(mem))
			}
			filled := int64(5)
			if h == ast.Own {
				filled = 0
			}
			for i, w := range mem[0] {
				if w != filled {
					t.Fatal(size, h, i, w)
				}
			}
		}
	}
}

func TestStartInputs(t *testing.T) {
	own, open, closed := ast.Own, ast.Open, ast.Closed
	for _, c := range []struct {
		g    []ast.Global
		in   [][]int64
		want string
	}{
		{nil, nil, "[]"},
		{nil, [][]int64{{1}}, "[]"},
		{[]ast.Global{global(open, 0)}, nil, "[[0]]"},
		{[]ast.Global{global(open, 0)}, [][]int64{}, "[[0]]"},
		{[]ast.Global{global(open, 0)}, [][]int64{nil}, "[[0]]"},
		{[]ast.Global{global(open, 0)}, [][]int64{{}}, "[[0]]"},
		{[]ast.Global{global(open, 0)}, [][]int64{{7}}, "[[7]]"},
		{[]ast.Global{global(open, 0)}, [][]int64{{7, 8}}, "[[7]]"},
		{[]ast.Global{global(closed, 0)}, [][]int64{{-7}, {8}}, "[[-7]]"},
		{[]ast.Global{global(own, 0)}, [][]int64{{7}}, "[[0]]"},
		{[]ast.Global{global(own, 3)}, [][]int64{{7, 8, 9}}, "[[0 0 0]]"},
		{[]ast.Global{global(closed, 3)}, [][]int64{{}}, "[[0 0 0]]"},
		{[]ast.Global{global(closed, 3)}, [][]int64{{1, 2}}, "[[1 2 0]]"},
		{[]ast.Global{global(closed, 3)}, [][]int64{{1, 2, 3}}, "[[1 2 3]]"},
		{[]ast.Global{global(closed, 3)}, [][]int64{{1, 2, 3, 4}}, "[[1 2 3]]"},
		{[]ast.Global{global(open, -2)}, [][]int64{{1, 2, 3, 4}}, "[[1]]"},
		{[]ast.Global{global(own, 2), global(open, 2), global(own, 0), global(closed, 2)}, [][]int64{{1, 2}, {3, 4}}, "[[0 0] [1 2] [0] [3 4]]"},
		{[]ast.Global{global(closed, 0), global(own, 1), global(open, 2), global(closed, 1)}, [][]int64{{1, 2}, {3}, {4}}, "[[1] [0] [3 0] [4]]"},
		{[]ast.Global{global(open, 0), global(closed, 0), global(open, 0)}, [][]int64{{1}, {2}}, "[[1] [2] [0]]"},
		{[]ast.Global{global(open, 0), global(closed, 0), global(open, 0)}, [][]int64{{}, {}, {3}}, "[[0] [0] [3]]"},
		{[]ast.Global{global(open, 0), global(open, 0)}, [][]int64{{1}, {2}, {3}, {4}}, "[[1] [2]]"},
		{[]ast.Global{global(open, 2), global(own, 2), global(closed, 2)}, [][]int64{{math.MinInt64, math.MaxInt64}, {-1}}, "[[-9223372036854775808 9223372036854775807] [0 0] [-1 0]]"},
		{[]ast.Global{global(-1, 0), global(3, 0), global(open, 0)}, [][]int64{{1}, {2}, {3}}, "[[0] [0] [1]]"},
	} {
		before := fmt.Sprint(c.in)
		if got := fmt.Sprint(run.Start(globals(c.g...), c.in)); got != c.want {
			t.Error(c.g, c.in, got, "want", c.want)
		}
		if fmt.Sprint(c.in) != before {
			t.Error(c.in, "isn't what it was:", before)
		}
	}
}

// Start asks nothing of the rest of a program.
func TestStartOfProgramsWithFaults(t *testing.T) {
	p := globals(global(ast.Open, 2), global(ast.Open, 2))
	p.Funcs = []ast.Func{{Name: "g", Body: []ast.Stmt{{}}}}
	if got := fmt.Sprint(run.Start(p, [][]int64{{1, 2}, {3, 4}})); got != "[[1 2] [3 4]]" {
		t.Error(got)
	}
	many := make([]ast.Global, 300)
	in := make([][]int64, 300)
	for i := range many {
		many[i], in[i] = global(ast.Closed, 0), []int64{int64(i)}
	}
	for i, words := range run.Start(globals(many...), in) {
		if !slices.Equal(words, in[i]) {
			t.Error(i, words)
		}
	}
}

// What Start answers, and what Run answers as Mem, shares nothing with what is handed in, nor list with list.
func TestMemoryIsNew(t *testing.T) {
	p := parsed(t, "public a[3]; var b[2]; secret c; public d[3]; func main() { a[0] = 9; d[2] = 9; c = 9; }")
	shared := []int64{1, 2, 3, 4}
	in := [][]int64{shared, shared[1:], shared}
	first := run.Start(p, in)
	r, _ := run.Run(p, in, plenty)
	if !slices.Equal(shared, []int64{1, 2, 3, 4}) || len(in) != 3 || &in[1][0] != &shared[1] {
		t.Fatal(in)
	}
	for _, mem := range [][][]int64{first, r.Mem} {
		for i := range mem {
			others := fmt.Sprint(mem[:i], mem[i+1:], shared)
			mem[i] = append(mem[i], 77)
			for k := range mem[i] {
				mem[i][k] = 66
			}
			if fmt.Sprint(mem[:i], mem[i+1:], shared) != others {
				t.Error(i, "shares its words")
			}
		}
	}
	if again := run.Start(p, in); !reflect.DeepEqual(again, [][]int64{{1, 2, 3}, {0, 0}, {2}, {1, 2, 3}}) {
		t.Error(again)
	}
}
