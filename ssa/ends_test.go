package ssa_test

import (
	"fmt"
	"math"
	"testing"

	"palings/api"
	"palings/ssa"
)

// ended is a program that may end so in a block that can be come to, or in one that can't.
func ended(e ssa.End, comes bool) ssa.Prog {
	first := block(nil, ret(1), num(1, 5))
	if comes {
		first.End = jump(to(1))
	}
	return around(first, block(nil, e), block(nil, ret(1)), block(params(2), ret(1)), block(params(3, 4), ret(1)))
}

func tryEnd(t *testing.T, e ssa.End, ok bool) {
	t.Helper()
	tell(ok)(t, fmt.Sprint(e), ended(e, true))
	tell(ok)(t, fmt.Sprint(e, " where nothing comes"), ended(e, false))
}

// Of each kind of end: how many ways it has, and its value.
func TestEnds(t *testing.T) {
	ways := map[ssa.Ends]int{ssa.Jump: 1, ssa.Branch: 2, ssa.Return: 0, ssa.Trap: 0, 0: -1, 5: -1, -1: -1, math.MaxInt: -1, math.MinInt: -1}
	for kind, most := range ways {
		for n := range 5 {
			for _, val := range []int{math.MinInt, -1, 0, 1} {
				for _, trap := range []api.Trap{api.NoTrap, api.Bounds, api.Zero} {
					e := ssa.End{Kind: kind, Val: val, Trap: trap, Ways: []ssa.Edge{to(2), to(2), to(2), to(2)}[:n]}
					hasVal := kind == ssa.Branch || kind == ssa.Return
					tryEnd(t, e, n == most && hasVal == (val == 1) && val >= 0 && (trap != 0) == (kind == ssa.Trap))
				}
			}
		}
	}
}

// A Trap's Trap is Bounds or Zero, and of no other end is it one of these.
func TestTraps(t *testing.T) {
	for _, which := range []api.Trap{math.MinInt, -1, api.NoTrap, api.Stack, api.Wild, 5, math.MaxInt} {
		tryEnd(t, trap(which), false)
	}
	for _, which := range []api.Trap{api.Bounds, api.Zero} {
		tryEnd(t, trap(which), true)
		for _, e := range []ssa.End{jump(to(2)), branch(1, to(2), to(2)), ret(1)} {
			tryEnd(t, e, true)
			e.Trap = which
			tryEnd(t, e, false)
		}
	}
}

func TestWays(t *testing.T) {
	takes := map[int]int{math.MinInt: -1, -1: -1, 0: -1, 1: 0, 2: 0, 3: 1, 4: 2, 5: -1, math.MaxInt: -1}
	for b, most := range takes {
		for n := range 4 {
			w := to(b, []int{1, 1, 1}[:n]...)
			ok := n == most
			tell(ok)(t, fmt.Sprint("a jump ", w), ended(jump(w), true))
			tell(ok)(t, fmt.Sprint("a branch ", w), ended(branch(1, w, to(2)), true))
			tell(ok)(t, fmt.Sprint("a branch, second ", w), ended(branch(1, to(2), w), true))
			tell(ok)(t, fmt.Sprint("a branch, both ", w), ended(branch(1, w, w), true))
			tell(ok)(t, fmt.Sprint("where nothing comes ", w), ended(jump(w), false))
		}
	}
	p := withFunc(block(params(1), jump(to(0, 1))))
	wrong(t, "a way to a function's first block, with as many values", p)
}
