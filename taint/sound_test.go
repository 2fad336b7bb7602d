package taint_test

import (
	"math/rand"
	"reflect"
	"slices"
	"testing"

	"palings/api"
	"palings/ast"
	"palings/sim"
	"palings/ssa"
	"palings/taint"
)

const fuel = 300

// inputs is two inputs that are the same in what is open.
func inputs(r *rand.Rand, p ssa.Prog) (a, b [][]int64) {
	for _, array := range p.Arrays {
		if array.Hold == ast.Own {
			continue
		}
		var x, y []int64
		for range max(1, array.Size) {
			x, y = append(x, int64(r.Intn(4))), append(y, int64(r.Intn(5))-1)
		}
		if array.Hold == ast.Open {
			y = slices.Clone(x)
		}
		a, b = append(a, x), append(b, y)
	}
	return a, b
}

// sameRuns holds two runs against each other in all that isn't secret.
func sameRuns(t *testing.T, seed int64, p ssa.Prog, l taint.Labels, a, b sim.Result) {
	t.Helper()
	if a.Trap != b.Trap || a.Steps != b.Steps || a.Deep != b.Deep || !slices.Equal(a.Leaks, b.Leaks) {
		t.Fatalf("seed %d: %+v and %+v of %+v", seed, a, b, p)
	}
	if a.Val != b.Val && l.Rets[p.Main] != api.Secret {
		t.Fatalf("seed %d: %d and %d are returned by %+v", seed, a.Val, b.Val, p)
	}
	for k := range p.Arrays {
		if l.Arrays[k] != api.Secret && !slices.Equal(a.Mem[k], b.Mem[k]) {
			t.Fatalf("seed %d: %v and %v are the words %d of %+v", seed, a.Mem[k], b.Mem[k], k, p)
		}
	}
}

// Where nothing that becomes known is secret, runs on two inputs that are the same in what is open leak the same, and what isn't secret is the same.
func TestWhatIsNotSecretHangsOnNoSecret(t *testing.T) {
	ended, apart, leaking := 0, 0, 0
	for seed := range int64(6000) {
		p, _ := made(seed)
		l := labels(t, p, nil)
		isKnown := slices.ContainsFunc(taint.Sinks(p, l), func(s taint.Sink) bool { return s.Label == api.Secret })
		r := rand.New(rand.NewSource(seed))
		for range 3 {
			x, y := inputs(r, p)
			a, e := sim.Run(p, x, fuel)
			b, g := sim.Run(p, y, fuel)
			if isKnown {
				if e == api.OK && g == api.OK && !slices.Equal(a.Leaks, b.Leaks) {
					leaking++
				}
				continue
			}
			if e != g {
				t.Fatalf("seed %d: %d and %d of %+v", seed, e, g, p)
			}
			if e != api.OK {
				continue
			}
			sameRuns(t, seed, p, l, a, b)
			if len(a.Leaks) > 0 {
				ended++
			}
			if !reflect.DeepEqual(a, b) {
				apart++
			}
		}
	}
	if ended < 2000 || apart < 1000 || leaking < 200 {
		t.Error("too few that end, that are apart, that leak:", ended, apart, leaking)
	}
	t.Log(ended, apart, leaking)
}
