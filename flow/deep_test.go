package flow_test

import (
	"testing"

	"palings/flow"
)

const great = 1 << 17

func TestManyBlocksInAChain(t *testing.T) {
	outs := make([][]int, great)
	for b := range great - 1 {
		outs[b] = to(b+1, great-1)
	}
	g := flow.New(function(outs))
	for b, got := range g.Order() {
		if got != b {
			t.Fatal(b, got)
		}
	}
	for b, got := range g.Depths() {
		if got != 0 {
			t.Fatal(b, got)
		}
	}
	if n := len(g.Ins(great - 1)); n != great {
		t.Error(n)
	}
}

func TestManyBlocksInARing(t *testing.T) {
	outs := make([][]int, great)
	for b := range great {
		outs[b] = to((b + 1) % great)
	}
	g := flow.New(function(outs))
	if n := len(g.Order()); n != great {
		t.Error(n)
	}
	for b, got := range g.Depths() {
		if got != 1 {
			t.Fatal(b, got)
		}
	}
}

// Each loop has its top and its end, and in between all of the next one; to go through each loop's blocks by themselves would take too long.
func TestManyLoopsInLoops(t *testing.T) {
	outs := make([][]int, 2*great+1)
	for n := range great {
		end := 2*great - 1 - n
		outs[n] = to(n+1, end)
		outs[end] = to(end+1, n)
	}
	g := flow.New(function(outs))
	depths := g.Depths()
	for n := range great {
		if depths[n] != n+1 || depths[2*great-1-n] != n+1 {
			t.Fatal(n, depths[n], depths[2*great-1-n])
		}
	}
	if depths[2*great] != 0 {
		t.Error(depths[2*great])
	}
}

// All go back to all ahead, from the last one.
func TestManyWaysBack(t *testing.T) {
	outs := make([][]int, great)
	for b := range great - 1 {
		outs[b] = to(b + 1)
	}
	for b := range great {
		outs[great-1] = append(outs[great-1], b)
	}
	for b, got := range flow.New(function(outs)).Depths() {
		if got != b+1 {
			t.Fatal(b, got)
		}
	}
}

func TestDomsOfManyBlocks(t *testing.T) {
	const n = 3000
	outs := make([][]int, n)
	for b := range n - 2 {
		outs[b] = to(b+1, n-1)
	}
	rows := flow.New(function(outs)).Doms()
	for b, row := range rows {
		for a, on := range row {
			if want := a <= b && b < n-1 || b == n-1 && (a == 0 || a == b); on != want {
				t.Fatal(b, a, on)
			}
		}
	}
}
