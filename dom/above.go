package dom

// finder has what the method of Lengauer and Tarjan needs, which goes through the numbers from the last one on. Those behind where it is hang on their parents.
type finder struct {
	hangs []int // of each number, what it hangs on, or, for short, what that hangs on in the end but one; none: it hangs on nothing yet
	entry []int // of each number, the least one from which a way comes to it by greater ones alone
	best  []int // of each number, the one of the least entry from it up to what it hangs on, without that
}

func newFinder(n int) *finder {
	f := &finder{hangs: make([]int, n), entry: make([]int, n), best: make([]int, n)}
	for v := range n {
		f.hangs[v], f.entry[v], f.best[v] = none, v, v
	}
	return f
}

// above is for each number the nearest one above it in the tree, for the first one itself.
func (w *walk) above() []int {
	n := len(w.parent)
	f, out, waiting := newFinder(n), make([]int, n), make([][]int, n)
	for v := n - 1; v > 0; v-- {
		for _, from := range w.ins[v] {
			f.entry[v] = min(f.entry[v], f.entry[f.least(from)])
		}
		waiting[f.entry[v]] = append(waiting[f.entry[v]], v)
		parent := w.parent[v]
		f.hangs[v] = parent
		for _, u := range waiting[parent] {
			out[u] = parent
			if b := f.least(u); f.entry[b] < f.entry[u] {
				out[u] = b // what is above u is above b
			}
		}
		waiting[parent] = nil
	}
	for v := 1; v < n; v++ {
		if out[v] != f.entry[v] {
			out[v] = out[out[v]]
		}
	}
	return out
}

// least is the number of the least entry from v up to what hangs on nothing, without that, or v, if that hangs on nothing. It lets all on that way hang on its end, so that the next one is short.
func (f *finder) least(v int) int {
	if f.hangs[v] == none {
		return v
	}
	var way []int
	for u := v; f.hangs[f.hangs[u]] != none; u = f.hangs[u] {
		way = append(way, u)
	}
	for i := len(way) - 1; i >= 0; i-- {
		u := way[i]
		on := f.hangs[u]
		if f.entry[f.best[on]] < f.entry[f.best[u]] {
			f.best[u] = f.best[on]
		}
		f.hangs[u] = f.hangs[on]
	}
	return f.best[v]
}
