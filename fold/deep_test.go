package fold_test

import (
	"fmt"
	"testing"

	"palings/api"
	"palings/fold"
	"palings/ssa"
	"palings/word"
)

const great = 1 << 16

func num(dst int, n int64) ssa.Ins { return ssa.Ins{Op: ssa.Const, Dst: dst, Num: n} }

func bin(dst int, o word.Op, a, b int) ssa.Ins {
	return ssa.Ins{Op: ssa.Bin, Bin: o, Dst: dst, Args: []int{a, b}}
}

func to(b int, args ...int) ssa.Edge { return ssa.Edge{To: b, Args: args} }

func jump(w ssa.Edge) ssa.End { return ssa.End{Kind: ssa.Jump, Ways: []ssa.Edge{w}} }

func branch(v int, yes, no ssa.Edge) ssa.End {
	return ssa.End{Kind: ssa.Branch, Val: v, Ways: []ssa.Edge{yes, no}}
}

func ret(v int) ssa.End { return ssa.End{Kind: ssa.Return, Val: v} }

// smaller is how many blocks, parameters and instructions a function has, once it is folded.
func smaller(t *testing.T, what string, blocks []ssa.Block, want [3]int) {
	t.Helper()
	p := around(t, ssa.Func{Name: "main", Blocks: blocks})
	q, e := fold.Program(p)
	if e != api.OK || q.Check() != api.OK {
		t.Fatal(what, e, q.Check())
	}
	if got := sizes(ssa.Prog{Funcs: q.Funcs[:1]}); got != want {
		t.Error(what, got, "want", want)
	}
	if what := undone(ssa.Func{Blocks: q.Funcs[0].Blocks[:min(len(q.Funcs[0].Blocks), 200)]}); len(q.Funcs[0].Blocks) < 200 && what != "" {
		t.Error(what, "is left to do")
	}
}

// first makes a 1, a 0, and the words 3 and 4.
func first(end ssa.End) ssa.Block {
	return ssa.Block{Ins: []ssa.Ins{num(1, 1), num(2, 0), {Op: ssa.Get, Dst: 3}, {Op: ssa.Get, Dst: 4, Arr: 1}}, End: end}
}

// Each choice is known only when the block of the one ahead is gone.
func TestChoicesOneBehindTheOther(t *testing.T) {
	blocks := []ssa.Block{first(jump(to(1, 1)))}
	for n := range great {
		at, v := len(blocks), 10+2*n
		blocks = append(blocks,
			ssa.Block{Params: []int{v}, End: branch(v, to(at+2, v), to(at+1))},
			ssa.Block{Ins: []ssa.Ins{bin(v+1, word.Sub, v, 3)}, End: jump(to(at+2, v+1))})
	}
	blocks = append(blocks, ssa.Block{Params: []int{5}, End: ret(5)})
	smaller(t, "choices", blocks, [3]int{great + 2, 0, 1})
}

// Each loop is known to be gone only when the one ahead is.
func TestLoopsOneBehindTheOther(t *testing.T) {
	blocks := []ssa.Block{first(jump(to(1, 2)))}
	for n := range great / 4 {
		at, v := len(blocks), 10+4*n
		blocks = append(blocks,
			ssa.Block{Params: []int{v}, End: branch(v, to(at+1, v), to(at+3, v))},
			ssa.Block{Params: []int{v + 1}, Ins: []ssa.Ins{bin(v+2, word.Sub, v+1, 3)}, End: branch(3, to(at+2), to(at+3, v+2))},
			ssa.Block{End: jump(to(at+1, v+2))})
	}
	blocks = append(blocks, ssa.Block{Params: []int{5}, End: ret(5)})
	smaller(t, "loops", blocks, [3]int{great/4 + 2, 0, 1})
}

// A name that each of many loops, one in the other, would turn, if the innermost one did more than add 0.
func TestLoopsInLoops(t *testing.T) {
	for _, outerAhead := range []bool{true, false} {
		top := func(n int) int { return 1 + n }
		end := func(n int) int { return 2*great - n }
		if !outerAhead {
			top = func(n int) int { return great - n }
			end = func(n int) int { return great + 1 + n }
		}
		blocks := make([]ssa.Block, 2*great+2)
		blocks[0] = first(jump(to(top(0), 3)))
		for n := range great {
			v := 10 + 3*n
			out := to(2*great+1, v)
			if n > 0 {
				out = to(end(n-1), v)
			}
			blocks[top(n)] = ssa.Block{Params: []int{v}, End: branch(v, to(top(n+1), v), out)}
			blocks[end(n)] = ssa.Block{Params: []int{v + 1}, Ins: []ssa.Ins{bin(v+2, word.Add, v+1, 2)}, End: jump(to(top(n), v+2))}
		}
		blocks[top(great-1)].End.Ways[0].To = end(great - 1)
		blocks[2*great+1] = ssa.Block{Params: []int{5}, End: ret(5)}
		smaller(t, fmt.Sprint("outer loops ahead: ", outerAhead), blocks, [3]int{2*great + 2, 0, 1})
	}
}

// A value that many ask for is another one, which is another one, and so on, told from the last one on.
func TestLongWayToAValue(t *testing.T) {
	blocks := make([]ssa.Block, great+2)
	for n := range great { // the blocks are come to from the last one on
		v := 10 + n
		blocks[1+n] = ssa.Block{Params: []int{v}, End: jump(to(n, v))}
	}
	blocks[1].End = jump(to(great+1, 10))
	blocks[0] = first(jump(to(great, 3)))
	last := ssa.Block{Params: []int{5}, End: ret(5)}
	for n := range great {
		last.Ins = append(last.Ins, ssa.Ins{Op: ssa.Set, Args: []int{5}}, bin(10+great+n, word.Add, 5, 2), bin(10+2*great+n, word.Xor, 5, 4), ssa.Ins{Op: ssa.Set, Args: []int{10 + 2*great + n}})
	}
	blocks[great+1] = last
	smaller(t, "chain", blocks, [3]int{great + 2, 0, 2*great + 3})
}

// Very many ways come to one block, with many parameters, and the last way alone tells that some of them aren't one value.
func TestManyWaysToOneBlock(t *testing.T) {
	const n, params = great / 2, 40
	blocks := make([]ssa.Block, 2*n+2)
	blocks[0] = first(jump(to(1)))
	all := make([]int, params)
	for k := range all {
		all[k] = 3
	}
	end := ssa.Block{End: ret(10 + 1)}
	for k := range params {
		end.Params = append(end.Params, 10+k)
	}
	for b := range n {
		v := 10 + params + b
		ins := []ssa.Ins{bin(v, word.Add, 3, 2)} // a word and 0
		args := append([]int{v}, all[1:]...)
		blocks[1+2*b] = ssa.Block{Ins: ins, End: branch(1, to(2*b+3), to(2*b+2))}
		if b%2 == 0 {
			blocks[1+2*b].End.Val = 4
		}
		blocks[2+2*b] = ssa.Block{End: jump(to(2*n+1, args...))}
	}
	last := append([]int{}, all...)
	last[1], last[params-1] = 4, 4
	blocks[2*n-1].End = jump(to(2*n+1, last...))
	end.Ins = []ssa.Ins{}
	for k := range params {
		end.Ins = append(end.Ins, ssa.Ins{Op: ssa.Set, Args: []int{10 + k}})
	}
	blocks[2*n+1] = end
	smaller(t, "ways", blocks, [3]int{n + n/2 + 2, 2, 2 + params})
}

// One block of very many instructions, of which each two are alike.
func TestManyInstructions(t *testing.T) {
	b := first(ssa.End{})
	v := 4
	for range 4 * great {
		b.Ins = append(b.Ins, bin(v+1, word.Add, v, 1), bin(v+2, word.Add, 1, v), bin(v+3, word.Xor, v+1, v+2), bin(v+4, word.Add, v, v+3))
		v += 4
	}
	b.End = ret(v)
	if got := len(fold.Func(ssa.Func{Blocks: []ssa.Block{b}}).Blocks[0].Ins); got != 3*4*great+2 {
		t.Error(got)
	}
}

// All of them are 1 in the end.
func TestManyConsts(t *testing.T) {
	b := ssa.Block{Ins: []ssa.Ins{num(1, 1)}}
	v := 1
	for range 4 * great {
		b.Ins = append(b.Ins, num(v+1, 1), bin(v+2, word.Mul, v+1, v), bin(v+3, word.And, 1, v+2), bin(v+4, word.Sub, v+3, v+2), bin(v+5, word.Xor, v+4, 1))
		v += 5
	}
	b.End = ret(v)
	if got := len(fold.Func(ssa.Func{Blocks: []ssa.Block{b}}).Blocks[0].Ins); got != 1 {
		t.Error(got)
	}
}
