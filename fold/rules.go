package fold

import (
	"palings/ssa"
	"palings/word"
)

func (w *work) lookAtEnd(b int) {
	e := &w.f.Blocks[b].End
	if e.Kind != ssa.Branch {
		return
	}
	n, is := w.constant(e.Val)
	if !is {
		return
	}
	goes, lost := 0, 1
	if n == 0 {
		goes, lost = 1, 0
	}
	*e = ssa.End{Kind: ssa.Jump, Ways: []ssa.Edge{e.Ways[goes]}}
	w.lose(w.askParams, w.outs[b][lost])
}

// lookAtParam does nothing with one of the first block, to which there is no way.
func (w *work) lookAtParam(v int, p place) {
	ins, k, self := w.ins[p.block], p.param(), w.kind(v)
	next := func(at, one int) int {
		for at < len(ins) {
			if is := w.kind(ins[at].args[k]); !ins[at].lost && is != self && is != one {
				break
			}
			at++
		}
		return at
	}
	t := &w.tried[v]
	t.one = next(t.one, self)
	if t.one == len(ins) {
		return
	}
	is := ins[t.one].args[k]
	t.other = next(t.other, w.kind(is))
	if t.other == len(ins) {
		w.let(v, is)
	}
}

func (w *work) lookAtBin(block int, i *ssa.Ins) {
	v, a, b := i.Dst, i.Args[0], i.Args[1]
	m, isA := w.constant(a)
	n, isB := w.constant(b)
	switch {
	case isB && idle(i.Bin, n):
		w.let(v, a)
	case isA && i.Bin.Swaps() && idle(i.Bin, m):
		w.let(v, b)
	case isA && isB:
		num, _ := word.Do(i.Bin, m, n)
		*i = ssa.Ins{Op: ssa.Const, Dst: v, Num: num}
		w.ask(w.users[w.kind(v)]...)
	default:
		a, b = w.kind(a), w.kind(b)
		if i.Bin.Swaps() {
			a, b = min(a, b), max(a, b)
		}
		w.unite(v, sum{block: block, bin: i.Bin, a: a, b: b})
	}
}

// idle tells whether an op with that number at its right side does nothing.
func idle(o word.Op, n int64) bool {
	switch o {
	case word.Add, word.Sub, word.Or, word.Xor, word.Shl, word.Shr:
		return n == 0
	case word.Mul:
		return n == 1
	case word.And:
		return n == -1
	}
	return false
}

// unite lets the later one of two values that are made alike be the first one. What was made so once, and isn't any more, does no harm: nothing else is made of kinds that aren't any more, and a Bin of two Consts, or an idle one, doesn't come here.
func (w *work) unite(v int, s sum) {
	first := w.alike[s]
	switch {
	case first == 0:
		w.alike[s] = v
	case w.made[v].at < w.made[first].at:
		w.alike[s] = v
		w.let(first, v)
	default:
		w.let(v, first)
	}
}
