package sim_test

import (
	"fmt"
	"reflect"
	"strings"
	"testing"

	"palings/api"
	"palings/ast"
	"palings/sim"
	"palings/ssa"
	"palings/word"
)

const plenty = 1 << 30

func num(dst int, n int64) ssa.Ins { return ssa.Ins{Op: ssa.Const, Dst: dst, Num: n} }

func bin(dst int, o word.Op, a, b int) ssa.Ins {
	return ssa.Ins{Op: ssa.Bin, Bin: o, Dst: dst, Args: []int{a, b}}
}

func get(dst, arr int) ssa.Ins { return ssa.Ins{Op: ssa.Get, Dst: dst, Arr: arr} }

func set(arr, v int) ssa.Ins { return ssa.Ins{Op: ssa.Set, Arr: arr, Args: []int{v}} }

func load(dst, arr, i int) ssa.Ins {
	return ssa.Ins{Op: ssa.Load, Dst: dst, Arr: arr, Args: []int{i}}
}

func store(arr, i, v int) ssa.Ins { return ssa.Ins{Op: ssa.Store, Arr: arr, Args: []int{i, v}} }

func call(dst, fn int, args ...int) ssa.Ins {
	return ssa.Ins{Op: ssa.Call, Dst: dst, Fn: fn, Args: args}
}

func to(b int, args ...int) ssa.Edge { return ssa.Edge{To: b, Args: args} }

func jump(w ssa.Edge) ssa.End { return ssa.End{Kind: ssa.Jump, Ways: []ssa.Edge{w}} }

func branch(v int, yes, no ssa.Edge) ssa.End {
	return ssa.End{Kind: ssa.Branch, Val: v, Ways: []ssa.Edge{yes, no}}
}

func ret(v int) ssa.End { return ssa.End{Kind: ssa.Return, Val: v} }

func trap(t api.Trap) ssa.End { return ssa.End{Kind: ssa.Trap, Trap: t} }

func params(v ...int) []int { return v }

func block(params []int, end ssa.End, ins ...ssa.Ins) ssa.Block {
	return ssa.Block{Params: params, Ins: ins, End: end}
}

func fn(name string, blocks ...ssa.Block) ssa.Func { return ssa.Func{Name: name, Blocks: blocks} }

// The arrays of programs that are made by around: two words, which are inputs, and a list of three.
const (
	wordA = iota
	wordB
	list
)

// around is a program of that main, and of other functions.
func around(main ssa.Func, others ...ssa.Func) ssa.Prog {
	return ssa.Prog{
		Arrays: []ssa.Array{{Name: "a", Hold: ast.Open}, {Name: "b", Hold: ast.Closed}, {Name: "h", Size: 3}},
		Funcs:  append([]ssa.Func{main}, others...),
	}
}

// line is a program of one block alone.
func line(end ssa.End, ins ...ssa.Ins) ssa.Prog { return around(fn("main", block(nil, end, ins...))) }

// told is leaks as a text: b1 is a branch that goes the way 1, i3 an index, d7,2 a division.
func told(leaks []api.Leak) string {
	var out []string
	for _, l := range leaks {
		switch {
		case l.Kind == api.LeakBranch && l.B == 0:
			out = append(out, fmt.Sprint("b", l.A))
		case l.Kind == api.LeakIndex && l.B == 0:
			out = append(out, fmt.Sprint("i", l.A))
		case l.Kind == api.LeakDiv:
			out = append(out, fmt.Sprintf("d%d,%d", l.A, l.B))
		default:
			out = append(out, fmt.Sprint("?", l))
		}
	}
	return strings.Join(out, " ")
}

// do is a program, what its two words are at first, and what comes of it.
type do struct {
	what  string
	p     ssa.Prog
	a, b  int64
	val   int64
	trap  api.Trap
	steps int
	leaks string
	mem   string
}

func (c do) try(t *testing.T) {
	t.Helper()
	r, e := sim.Run(c.p, [][]int64{{c.a}, {c.b}}, plenty)
	mem := fmt.Sprint(r.Mem)
	if c.mem == "" {
		c.mem = fmt.Sprintf("[[%d] [%d] [0 0 0]]", c.a, c.b)
	}
	if e != api.OK || r.Val != c.val || r.Trap != c.trap || r.Steps != c.steps || told(r.Leaks) != c.leaks || mem != c.mem {
		t.Errorf("%s of %d, %d: error %d, val %d trap %d steps %d leaks %s mem %s, want %d %d %d %s %s",
			c.what, c.a, c.b, e, r.Val, r.Trap, r.Steps, told(r.Leaks), mem, c.val, c.trap, c.steps, c.leaks, c.mem)
	}
}

// refused says that a run is to answer that error, and nothing beside it.
func refused(t *testing.T, what string, p ssa.Prog, in [][]int64, fuel int, want api.Errno) {
	t.Helper()
	r, e := sim.Run(p, in, fuel)
	if e != want || !reflect.DeepEqual(r, sim.Result{}) {
		t.Errorf("%s, fuel %d: error %d, want %d, %v", what, fuel, e, want, r)
	}
}
