package fold_test

import (
	"fmt"
	"testing"

	"palings/api"
	"palings/sim"
	"palings/ssa"
)

// fewer tells whether leaks are others, one by one, without some of their LeakBranches.
func fewer(leaks, others []api.Leak) bool {
	for _, l := range others {
		if len(leaks) > 0 && leaks[0] == l {
			leaks = leaks[1:]
		} else if l.Kind != api.LeakBranch {
			return false
		}
	}
	return len(leaks) == 0
}

func TestFewer(t *testing.T) {
	b0, b1, i, d := api.Leak{Kind: api.LeakBranch}, api.Leak{Kind: api.LeakBranch, A: 1}, api.Leak{Kind: api.LeakIndex}, api.Leak{Kind: api.LeakDiv}
	all := []api.Leak{b0, b1, i, b0, d}
	for _, ok := range [][]api.Leak{all, {b1, i, b0, d}, {b0, i, d}, {i, d}} {
		if !fewer(ok, all) {
			t.Error(ok)
		}
	}
	for _, no := range [][]api.Leak{nil, {b0, b1, i, b0}, {i, b1, d}, {b1, b0, i, d}, {b0, b0, b1, i, b0, d}, {d, i}, {i, d, d}} {
		if fewer(no, all) {
			t.Error(no)
		}
	}
}

const steps = 3000

// runs is what p and q, which p became, do on an input; false: they take too many steps.
func runs(t *testing.T, p, q ssa.Prog, in [][]int64) (sim.Result, sim.Result, bool) {
	t.Helper()
	b, e := sim.Run(q, in, steps)
	a, f := sim.Run(p, in, steps)
	if e == api.OK && f != api.OK {
		a, f = sim.Run(p, in, 200*steps)
	}
	if e != f {
		t.Fatalf("on %v: errors %d, %d of\n%+v\n%+v", in, f, e, p, q)
	}
	if e != api.OK {
		return a, b, false
	}
	if a.Val != b.Val || a.Trap != b.Trap || a.Deep != b.Deep || fmt.Sprint(a.Mem) != fmt.Sprint(b.Mem) || b.Steps > a.Steps || !fewer(b.Leaks, a.Leaks) {
		t.Fatalf("on %v: %+v, %+v of\n%+v\n%+v", in, a, b, p, q)
	}
	return a, b, true
}

// sameOn tells on how many of the inputs it ends, and that each two on which p leaks the same leak the same of q.
func sameOn(t *testing.T, p, q ssa.Prog, ins [][][]int64) int {
	t.Helper()
	ended := 0
	by := map[string]string{}
	for _, in := range ins {
		a, b, ends := runs(t, p, q, in)
		if !ends {
			continue
		}
		ended++
		leaks := fmt.Sprint(a.Leaks)
		if was, ok := by[leaks]; ok && was != fmt.Sprint(b.Leaks) {
			t.Fatalf("on %v it leaks %v, and elsewhere %s, of\n%+v\n%+v", in, b.Leaks, was, p, q)
		}
		by[leaks] = fmt.Sprint(b.Leaks)
	}
	return ended
}

// sameInBlocks holds on several inputs what around's programs do against each other.
func sameInBlocks(t *testing.T, p, q ssa.Prog) {
	t.Helper()
	var ins [][][]int64
	for _, a := range []int64{0, 1, 2, -5, 1 << 40} {
		ins = append(ins, [][]int64{{a}, {0}}, [][]int64{{a}, {3}})
	}
	sameOn(t, p, q, ins)
}
