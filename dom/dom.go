// Package dom tells which places of a graph lie on each way from its first place to others. It calls itself nowhere, and takes little more time than there are ways, for programs may become very many blocks.
package dom

// Tree is a graph's places, each below those that lie on each way to it.
type Tree struct {
	at   []int // of each place where it stands in a row in which those below a place stand directly behind it; none: no way comes to it
	size []int // how many of that row are the place and those below it; 0: no way comes to it
}

const none = -1

// Of is the tree of a graph that is told by where the ways of each place go. A way to a place that isn't there is none.
func Of(outs [][]int) Tree {
	if len(outs) == 0 {
		return Tree{}
	}
	w := walked(outs)
	return w.tree(w.above())
}

// Over tells whether a is on each way from the first place to b, as b itself is; false, if no way comes to one of them.
func (t Tree) Over(a, b int) bool {
	return t.at[a] <= t.at[b] && t.at[b] < t.at[a]+t.size[a]
}

// tree lays the numbers in a row: sizes first, from the last number on, for what is above a number is less than it.
func (w *walk) tree(above []int) Tree {
	n := len(above)
	at, size, free := make([]int, n), make([]int, n), make([]int, n)
	for v := n - 1; v >= 0; v-- {
		size[v]++
		if v > 0 {
			size[above[v]] += size[v]
		}
	}
	for v := range n {
		if v > 0 {
			at[v] = free[above[v]]
			free[above[v]] += size[v]
		}
		free[v] = at[v] + 1
	}
	t := Tree{at: make([]int, len(w.number)), size: make([]int, len(w.number))}
	for place, v := range w.number {
		t.at[place] = none
		if v != none {
			t.at[place], t.size[place] = at[v], size[v]
		}
	}
	return t
}
