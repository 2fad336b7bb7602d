package sim_test

import (
	"fmt"
	"math"
	"reflect"
	"runtime"
	"testing"

	"palings/api"
	"palings/ast"
	"palings/sim"
	"palings/ssa"
	"palings/word"
)

func TestWrongPrograms(t *testing.T) {
	five := line(ret(1), num(1, 5))
	turned := func(turn func(p *ssa.Prog)) ssa.Prog {
		p := five.Clone()
		turn(&p)
		return p
	}
	for what, p := range map[string]ssa.Prog{
		"nothing":                         {},
		"no function":                     {Arrays: five.Arrays},
		"no block":                        around(fn("main")),
		"a value that isn't made":         line(ret(1)),
		"a main with parameters":          around(fn("main", block(params(1), ret(1)))),
		"an end of no kind":               line(ssa.End{}, num(1, 5)),
		"a wrong size":                    turned(func(p *ssa.Prog) { p.Arrays[list].Size = 4097 }),
		"a size below 0":                  turned(func(p *ssa.Prog) { p.Arrays[list].Size = -1 }),
		"a wrong hold":                    turned(func(p *ssa.Prog) { p.Arrays[list].Hold = 3 }),
		"a main that isn't there":         turned(func(p *ssa.Prog) { p.Main = 1 }),
		"a main below 0":                  turned(func(p *ssa.Prog) { p.Main = -1 }),
		"a wrong function that isn't run": around(five.Funcs[0], fn("f", block(nil, ret(1)))),
		"a use that is never come to":     around(fn("main", block(nil, branch(1, to(1), to(2)), num(1, 5)), block(nil, ret(1)), block(nil, ret(2)))),
		"a load of a word":                line(ret(1), num(1, 0), load(2, wordA, 1)),
		"a get of a list":                 line(ret(1), get(1, list)),
		"a trap of another kind":          line(trap(api.Wild)),
	} {
		for _, fuel := range []int{math.MinInt, -1, 0, 1, 1000, math.MaxInt} {
			refused(t, what, p, [][]int64{{1}, {2}}, fuel, api.ErrBad)
		}
	}
}

func TestFuel(t *testing.T) {
	loop := rounds(6, 7, 8)
	recursive := around(fn("main", block(nil, ret(2), num(1, 10), call(2, 1, 1))),
		fn("down", block(params(1), branch(1, to(1), to(2))), block(nil, ret(3), num(2, 1), bin(4, word.Sub, 1, 2), call(3, 1, 4)), block(nil, ret(1))))
	for _, c := range []struct {
		what  string
		p     ssa.Prog
		steps int
	}{
		{"a trap alone", line(trap(api.Zero)), 1},
		{"5, returned", line(ret(1), num(1, 5)), 2},
		{"a division by 0", line(ret(1), num(1, 0), bin(2, word.Div, 1, 1)), 2},
		{"a wild load", line(ret(1), num(1, 3), load(2, list, 1)), 2},
		{"a loop", loop, 5 + 4*4 + 1 + 7},
		{"calls", recursive, 2 + 10*5 + 2 + 1},
	} {
		in := [][]int64{{4}}
		for _, fuel := range []int{math.MinInt, -1000, -1, 0, 1, c.steps / 2, c.steps - 1} {
			if fuel < c.steps {
				refused(t, c.what, c.p, in, fuel, api.ErrSteps)
			}
		}
		first, _ := sim.Run(c.p, in, c.steps)
		for _, fuel := range []int{c.steps, c.steps + 1, 1000, math.MaxInt} {
			r, e := sim.Run(c.p, in, fuel)
			if e != api.OK || r.Steps != c.steps || !reflect.DeepEqual(r, first) {
				t.Error(c.what, fuel, e, r, "want", first)
			}
		}
	}
	endless := around(fn("main", block(nil, jump(to(1)), num(1, 5)), block(nil, jump(to(1)))))
	for _, fuel := range []int{-1, 0, 1, 2, 3, 100000} {
		refused(t, "an endless loop", endless, nil, fuel, api.ErrSteps)
	}
}

// down is a program of a main that calls a function that calls itself a times more.
func down() ssa.Prog {
	return around(fn("main", block(nil, ret(2), get(1, wordA), call(2, 1, 1))),
		fn("down", block(params(1), branch(1, to(1), to(2))),
			block(nil, ret(5), num(2, 1), bin(3, word.Sub, 1, 2), call(4, 1, 3), bin(5, word.Add, 4, 2)),
			block(nil, ret(1))))
}

func TestDeep(t *testing.T) {
	for _, n := range []int64{0, 1, 2, 100, 1996, 1997, 1998} {
		r, e := sim.Run(down(), [][]int64{{n}}, plenty)
		if e != api.OK || r.Deep != int(n)+2 || r.Val != n || r.Steps != 3+2+6*int(n) || len(r.Leaks) != int(n)+1 {
			t.Error(n, e, r.Deep, r.Val, r.Steps, len(r.Leaks))
		}
	}
	for _, n := range []int64{1999, 2000, 100000, -1} {
		refused(t, fmt.Sprint("down from ", n), down(), [][]int64{{n}}, plenty, api.ErrSteps)
	}
	// the call that is one too many is a step, as those ahead of it are
	refused(t, "calls beyond the fuel", down(), [][]int64{{1999}}, 5000, api.ErrSteps)
	self := line(ret(1), call(1, 0))
	refused(t, "a main that calls itself", self, nil, plenty, api.ErrSteps)
	if sim.MostDeep != 2000 {
		t.Error(sim.MostDeep)
	}
}

// Calls one behind the other aren't within each other.
func TestDeepAtMost(t *testing.T) {
	one := fn("one", block(nil, ret(1), num(1, 1)))
	two := fn("two", block(nil, ret(1), call(1, 1)))
	three := fn("three", block(nil, ret(3), call(1, 2), call(2, 1), bin(3, word.Add, 1, 2)))
	stops := fn("stops", block(nil, trap(api.Bounds)))
	for _, c := range []struct {
		ins  []ssa.Ins
		deep int
		val  int64
	}{
		{[]ssa.Ins{num(1, 7)}, 1, 7},
		{[]ssa.Ins{call(1, 1)}, 2, 1},
		{[]ssa.Ins{call(1, 2)}, 3, 1},
		{[]ssa.Ins{call(1, 3)}, 4, 2},
		{[]ssa.Ins{call(2, 1), call(3, 1), call(1, 1)}, 2, 1},
		{[]ssa.Ins{call(2, 3), call(3, 2), call(1, 1)}, 4, 1},
		{[]ssa.Ins{call(2, 1), call(3, 2), call(1, 3)}, 4, 2},
		{[]ssa.Ins{call(1, 4)}, 2, 0},
		{[]ssa.Ins{call(2, 2), call(1, 4)}, 3, 0},
		{[]ssa.Ins{num(2, 0), bin(3, word.Div, 2, 2), call(1, 3)}, 1, 0},
	} {
		r, e := sim.Run(around(fn("main", block(nil, ret(1), c.ins...)), one, two, three, stops), nil, plenty)
		if e != api.OK || r.Deep != c.deep || r.Val != c.val {
			t.Error(c.ins, e, r, "want", c.deep, c.val)
		}
	}
	// so many calls one behind the other, each of which is two deep
	many := around(fn("main", block(nil, jump(to(1, 1)), get(1, wordA)), block(params(2), branch(2, to(2), to(3))),
		block(nil, jump(to(1, 4)), num(3, 1), bin(4, word.Sub, 2, 3), call(5, 2)), block(nil, ret(2))), one, two)
	if r, e := sim.Run(many, [][]int64{{5000}}, plenty); e != api.OK || r.Deep != 3 || r.Steps != 2+5000*9+2 {
		t.Error(e, r.Deep, r.Steps)
	}
}

func TestWholeResults(t *testing.T) {
	branchTaken := api.Leak{Kind: api.LeakBranch, A: 1}
	for what, c := range map[string]struct {
		p    ssa.Prog
		want sim.Result
	}{
		"returns": {line(ret(1), num(1, 5)), sim.Result{Val: 5, Steps: 2, Deep: 1, Mem: [][]int64{{3}, {8}, {0, 0, 0}}}},
		"traps":   {line(trap(api.Bounds), num(1, 5), set(wordB, 1)), sim.Result{Trap: api.Bounds, Steps: 3, Deep: 1, Mem: [][]int64{{3}, {5}, {0, 0, 0}}}},
		"all leaks": {around(fn("main", block(nil, branch(3, to(1), to(1)), get(1, wordA), get(2, wordB), bin(3, word.Mod, 2, 1)), block(nil, ret(3), store(list, 3, 1)))),
			sim.Result{Val: 2, Steps: 6, Deep: 1, Mem: [][]int64{{3}, {8}, {0, 0, 3}}, Leaks: []api.Leak{{Kind: api.LeakDiv, A: 8, B: 3}, branchTaken, {Kind: api.LeakIndex, A: 2}}}},
		"within a call": {around(fn("main", block(nil, ret(2), get(1, wordA), call(2, 1, 1))), fn("f", block(params(1), ret(2), set(wordB, 1), load(2, list, 1)))),
			sim.Result{Trap: api.Wild, Steps: 4, Deep: 2, Mem: [][]int64{{3}, {3}, {0, 0, 0}}, Leaks: []api.Leak{{Kind: api.LeakIndex, A: 3}}}},
	} {
		r, e := sim.Run(c.p, [][]int64{{3}, {8}}, plenty)
		if e != api.OK || !reflect.DeepEqual(r, c.want) {
			t.Errorf("%s: %d, %+v want %+v", what, e, r, c.want)
		}
	}
	alone := ssa.Prog{Funcs: []ssa.Func{fn("main", block(nil, ret(1), num(1, 5)))}}
	if r, e := sim.Run(alone, [][]int64{{1}, {2}}, plenty); e != api.OK || len(r.Mem) != 0 || r.Val != 5 {
		t.Error("no arrays", e, r)
	}
	other := around(fn("other", block(nil, trap(api.Zero))), fn("main", block(nil, ret(1), num(1, 6))))
	other.Main = 1
	if r, e := sim.Run(other, nil, plenty); e != api.OK || r.Val != 6 {
		t.Error("Main is the second function", e, r)
	}
}

// A run neither turns what it is handed, nor keeps anything for the next one.
func TestRunsAreApart(t *testing.T) {
	p := around(fn("main", block(nil, branch(3, to(1, 3), to(1, 1)), get(1, wordA), num(2, 1), bin(3, word.Add, 1, 2), set(wordA, 3)),
		block(params(4), ret(5), store(list, 2, 4), load(5, list, 2))))
	p.Arrays[list].Hold = ast.Open
	in := [][]int64{{4}, {5}, {6, 7, 8}}
	before, given := fmt.Sprintf("%#v", p), fmt.Sprint(in)
	first, _ := sim.Run(p, in, plenty)
	text := fmt.Sprint(first)
	second, e := sim.Run(p, in, plenty)
	if e != api.OK || fmt.Sprint(first) != text || fmt.Sprint(second) != text || text != "{5 0 [{1 1 0} {2 1 0} {2 1 0}] 8 1 [[5] [5] [6 5 8]]}" {
		t.Error(e, text, second)
	}
	second.Mem[0][0], second.Mem[2][1], second.Leaks[0].A = 99, 99, 99
	if fmt.Sprint(first) != text || fmt.Sprintf("%#v", p) != before || fmt.Sprint(in) != given {
		t.Error("turned", first, p, in)
	}
}

// counted leaks a branch and an index in each round.
func counted() ssa.Prog {
	return around(fn("main", block(nil, jump(to(1, 1)), get(1, wordA), num(2, 1)), block(params(3), branch(3, to(2), to(3))),
		block(nil, jump(to(1, 5)), bin(4, word.And, 3, 2), load(6, list, 4), bin(5, word.Sub, 3, 2)), block(nil, ret(3))))
}

// More leaks than are kept at first are told whole.
func TestVeryManyLeaks(t *testing.T) {
	for _, n := range []int{1<<19 - 1, 1 << 19, 1<<19 + 1, 1 << 20} {
		r, e := sim.Run(counted(), [][]int64{{int64(n)}}, plenty)
		if e != api.OK || len(r.Leaks) != 2*n+1 || r.Steps != 3+5*n+2 || r.Val != 0 {
			t.Fatal(n, e, len(r.Leaks), r.Steps, r.Val)
		}
		for i, l := range r.Leaks[:2*n] {
			want := api.Leak{Kind: api.LeakBranch, A: 1}
			if i%2 == 1 {
				want = api.Leak{Kind: api.LeakIndex, A: int64((n - i/2) & 1)}
			}
			if l != want {
				t.Fatal(n, i, l)
			}
		}
		if r.Leaks[2*n] != (api.Leak{Kind: api.LeakBranch}) {
			t.Fatal(n, r.Leaks[2*n])
		}
	}
}

// A run that doesn't end doesn't take more and more memory for what it leaks.
func TestLeaksOfEndlessRuns(t *testing.T) {
	var before, after runtime.MemStats
	runtime.ReadMemStats(&before)
	refused(t, "very many rounds", counted(), [][]int64{{-1}}, 1<<26, api.ErrSteps)
	runtime.ReadMemStats(&after)
	if took := after.TotalAlloc - before.TotalAlloc; took > 1<<28 {
		t.Error("bytes that were taken:", took)
	}
}
