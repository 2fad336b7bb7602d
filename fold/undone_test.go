package fold_test

import (
	"fmt"

	"palings/ssa"
	"palings/word"
)

// undone names something that is left to do in a function, rule by rule as the chapter has them, or nothing.
func undone(f ssa.Func) string {
	for b, can := range f.Reach() {
		if !can {
			return fmt.Sprint("the block ", b)
		}
	}
	consts, used := map[int]int64{}, map[int]bool{}
	for _, b := range f.Blocks {
		for _, i := range b.Ins {
			if i.Op == ssa.Const {
				consts[i.Dst] = i.Num
			}
			for _, v := range i.Args {
				used[v] = true
			}
		}
		used[b.End.Val] = true
		for _, w := range b.End.Ways {
			for _, v := range w.Args {
				used[v] = true
			}
		}
	}
	for at, b := range f.Blocks {
		for k, v := range b.Params {
			if at > 0 && isOne(f, at, k) {
				return fmt.Sprint("the parameter ", v)
			}
		}
		if _, is := consts[b.End.Val]; is && b.End.Kind == ssa.Branch {
			return fmt.Sprint("the branch of ", at)
		}
		for k, i := range b.Ins {
			if undoneInstruction(i, b.Ins[:k], consts) {
				return fmt.Sprintf("%+v", i)
			}
			if pure := i.Op == ssa.Const || i.Op == ssa.Get || isBin(i); pure && !used[i.Dst] {
				return fmt.Sprintf("unused %+v", i)
			}
		}
	}
	return ""
}

// isOne tells whether a parameter is one value on all ways, but itself.
func isOne(f ssa.Func, at, k int) bool {
	own := f.Blocks[at].Params[k]
	values := map[int]bool{}
	for _, b := range f.Blocks {
		for _, w := range b.End.Ways {
			if w.To == at {
				values[w.Args[k]] = true
			}
		}
	}
	delete(values, own)
	return len(values) == 1
}

func isBin(i ssa.Ins) bool {
	return i.Op == ssa.Bin && i.Bin != word.Div && i.Bin != word.Mod
}

// nothing is the number that does nothing at an op's right side.
var nothing = map[word.Op]int64{word.Add: 0, word.Sub: 0, word.Or: 0, word.Xor: 0, word.Shl: 0, word.Shr: 0, word.Mul: 1, word.And: -1}

// swaps is the ops that are the same the other way round.
var swaps = map[word.Op]bool{word.Add: true, word.Mul: true, word.And: true, word.Or: true, word.Xor: true, word.Eq: true, word.Ne: true}

func undoneInstruction(i ssa.Ins, ahead []ssa.Ins, consts map[int]int64) bool {
	if i.Op == ssa.Const {
		for _, j := range ahead {
			if j.Op == ssa.Const && j.Num == i.Num {
				return true
			}
		}
	}
	if !isBin(i) {
		return false
	}
	a, b := i.Args[0], i.Args[1]
	m, isA := consts[a]
	n, isB := consts[b]
	idle, has := nothing[i.Bin]
	if isA && isB || has && isB && n == idle || has && swaps[i.Bin] && isA && m == idle {
		return true
	}
	for _, j := range ahead {
		if j.Op != ssa.Bin || j.Bin != i.Bin {
			continue
		}
		if c, d := j.Args[0], j.Args[1]; c == a && d == b || swaps[i.Bin] && c == b && d == a {
			return true
		}
	}
	return false
}
