package sim_test

import (
	"fmt"
	"testing"

	"palings/api"
	"palings/sim"
	"palings/ssa"
	"palings/word"
)

// tryIndex says that a program of three instructions or fewer goes to the word at the index a, or traps there.
func tryIndex(t *testing.T, p ssa.Prog, a int64, ok bool, val int64) {
	t.Helper()
	r, e := sim.Run(p, [][]int64{{a}}, plenty)
	want := api.Wild
	if ok {
		want = api.NoTrap
	} else {
		val = 0
	}
	if e != api.OK || r.Trap != want || r.Val != val || told(r.Leaks) != fmt.Sprint("i", a) {
		t.Error(len(r.Mem[list]), a, e, r.Val, r.Trap, told(r.Leaks))
	}
}

func TestBranches(t *testing.T) {
	p := around(fn("main", block(nil, branch(1, to(1), to(2)), get(1, wordA)), block(nil, ret(2), num(2, 10)), block(nil, ret(3), num(3, 20))))
	for _, a := range words {
		c := do{what: "branch", p: p, a: a, val: 10, steps: 4, leaks: "b1"}
		if a == 0 {
			c.val, c.leaks = 20, "b0"
		}
		c.try(t)
	}
	p = around(fn("main", block(nil, branch(1, to(1, 2), to(1, 1)), get(1, wordA), num(2, 30)), block(params(3), ret(3))))
	do{what: "both ways to one block", p: p, a: 6, val: 30, steps: 4, leaks: "b1"}.try(t)
	do{what: "both ways to one block", p: p, a: 0, val: 0, steps: 4, leaks: "b0"}.try(t)
	p = around(fn("main", block(nil, branch(1, to(1), to(2)), get(1, wordA)), block(nil, branch(1, to(2), to(2))), block(nil, ret(1))))
	do{what: "two branches", p: p, a: -1, val: -1, steps: 4, leaks: "b1 b1"}.try(t)
	do{what: "two branches", p: p, a: 0, val: 0, steps: 3, leaks: "b0"}.try(t)
}

func TestJumpsAndTraps(t *testing.T) {
	for _, c := range []do{
		{what: "jump", p: around(fn("main", block(nil, jump(to(1)), num(1, 5)), block(nil, ret(1)))), val: 5, steps: 3},
		{what: "jump with values", p: around(fn("main", block(nil, jump(to(2, 1, 2)), num(1, 5), num(2, 6)), block(nil, ret(1)), block(params(3, 4), ret(5), bin(5, word.Sub, 3, 4)))), val: -1, steps: 5},
		{what: "jump with one value twice", p: around(fn("main", block(nil, jump(to(1, 2, 2)), num(1, 5), num(2, 6)), block(params(3, 4), ret(5), bin(5, word.Add, 3, 4)))), val: 12, steps: 5},
		{what: "zero", p: line(trap(api.Zero), num(1, 5)), trap: api.Zero, steps: 2},
		{what: "bounds", p: line(trap(api.Bounds), num(1, 5), set(wordA, 1)), a: 4, trap: api.Bounds, steps: 3, mem: "[[5] [0] [0 0 0]]"},
		{what: "a trap alone", p: line(trap(api.Bounds)), trap: api.Bounds, steps: 1},
		{what: "a trap within a call", p: around(fn("main", block(nil, ret(1), call(1, 1), set(wordA, 1))), fn("f", block(nil, trap(api.Bounds)))), trap: api.Bounds, steps: 2},
		{what: "within two", p: around(fn("main", block(nil, ret(1), call(1, 1), set(wordA, 1))), fn("f", block(nil, ret(1), call(1, 2))), fn("g", block(nil, trap(api.Zero)))), trap: api.Zero, steps: 3},
		{what: "a wrong block that nothing comes to", p: around(fn("main", block(nil, ret(1), num(1, 5)), block(nil, ret(77), set(wordA, 0), store(list, -1, 3)))), val: 5, steps: 2},
	} {
		c.try(t)
	}
}

// rounds is a loop of a rounds, each of which hands its parameters on in another order.
func rounds(args ...int) ssa.Prog {
	return around(fn("main",
		block(nil, jump(to(1, 1, 2, 3, 4)), get(1, wordA), num(2, 2), num(3, 3), num(4, 5)),
		block(params(5, 6, 7, 8), branch(5, to(2), to(3))),
		block(nil, jump(to(1, append([]int{10}, args...)...)), num(9, 1), bin(10, word.Sub, 5, 9)),
		block(nil, ret(15), num(11, 100), num(12, 10), bin(13, word.Mul, 6, 11), bin(14, word.Mul, 7, 12), bin(16, word.Add, 13, 14), bin(15, word.Add, 16, 8))))
}

func TestParametersAtOnce(t *testing.T) {
	for _, c := range []struct {
		args []int
		want []int64 // after so many rounds
	}{
		{[]int{6, 7, 8}, []int64{235, 235, 235}},
		{[]int{7, 6, 8}, []int64{235, 325, 235, 325}},
		{[]int{6, 8, 7}, []int64{235, 253, 235, 253}},
		{[]int{8, 7, 6}, []int64{235, 532, 235, 532}},
		{[]int{7, 8, 6}, []int64{235, 352, 523, 235}},
		{[]int{8, 6, 7}, []int64{235, 523, 352, 235}},
		{[]int{7, 7, 7}, []int64{235, 333, 333}},
		{[]int{8, 6, 6}, []int64{235, 522, 255, 522}},
		{[]int{5, 6, 7}, []int64{235, 123, 122, 123}},
		{[]int{9, 5, 8}, []int64{235, 115, 115}},
	} {
		for n, want := range c.want {
			leaks := ""
			for range n {
				leaks += "b1 "
			}
			do{what: fmt.Sprint(c.args, n), p: rounds(c.args...), a: int64(n), val: want, steps: 5 + 4*n + 1 + 7, leaks: leaks + "b0"}.try(t)
		}
	}
}
