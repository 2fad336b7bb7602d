package ssa_test

import (
	"fmt"
	"math"
	"reflect"
	"slices"
	"testing"

	"palings/api"
	"palings/ssa"
)

// elements finds each list, wherever it is nested, and each number and text that can be turned.
func elements(v reflect.Value, list func(reflect.Value), leaf func(reflect.Value)) {
	switch v.Kind() {
	case reflect.Slice:
		list(v)
		for i := range v.Len() {
			elements(v.Index(i), list, leaf)
		}
	case reflect.Struct:
		for i := range v.NumField() {
			elements(v.Field(i), list, leaf)
		}
	default:
		leaf(v)
	}
}

// memory is where the lists' elements are, as far as there are any.
func memory(of any) map[uintptr]int {
	out := map[uintptr]int{}
	elements(reflect.ValueOf(of).Elem(), func(v reflect.Value) {
		if v.Cap() > 0 {
			out[v.Pointer()]++
		}
	}, func(reflect.Value) {})
	return out
}

func turned(v reflect.Value) {
	if v.Kind() == reflect.String {
		v.SetString(v.String() + "!")
	} else {
		v.SetInt(v.Int() + 1)
	}
}

// apart turns each number and text of one and looks for it in the other, and holds the lists' places against each other.
func apart[T any](t *testing.T, what string, a, b *T) {
	t.Helper()
	before, old := fmt.Sprintf("%#v", *a), fmt.Sprintf("%#v", *b)
	own := memory(a)
	for at, n := range memory(b) {
		if own[at] > 0 || n > 1 {
			t.Error(what, "shares a list")
		}
	}
	elements(reflect.ValueOf(b).Elem(), func(reflect.Value) {}, turned)
	if fmt.Sprintf("%#v", *a) != before {
		t.Error(what, "was turned")
	}
	if fmt.Sprintf("%#v", *b) == old {
		t.Error(what, "wasn't turned")
	}
}

func TestClone(t *testing.T) {
	p := whole()
	for _, at := range []int{0, 1} {
		f := p.Funcs[at]
		c := f.Clone()
		if !reflect.DeepEqual(c, f) {
			t.Error(c, "isn't", f)
		}
		apart(t, "the function", &f, &c)
		apart(t, "its copy", &c, &f)
	}
	p = whole()
	c := p.Clone()
	if !reflect.DeepEqual(c, p) {
		t.Error(c, "isn't", p)
	}
	apart(t, "the program", &p, &c)
	p = whole()
	c = p.Clone()
	apart(t, "its copy", &c, &p)
	if c = p.Clone(); !reflect.DeepEqual(c, p) {
		t.Error(c, "isn't", p)
	}
}

// One list that stands in several places becomes several.
func TestCloneOfOneListTwice(t *testing.T) {
	list := []int{1, 2, 3}
	ways := []ssa.Edge{{To: 1, Args: list}, {To: 1, Args: list}}
	ins := []ssa.Ins{{Op: ssa.Call, Args: list}, {Op: ssa.Call, Args: list}}
	b := ssa.Block{Params: list, Ins: ins, End: ssa.End{Ways: ways}}
	blocks := []ssa.Block{b, b}
	p := ssa.Prog{Funcs: []ssa.Func{{Blocks: blocks}, {Blocks: blocks}}}
	c := p.Clone()
	if !reflect.DeepEqual(c, p) {
		t.Error(c, "isn't", p)
	}
	apart(t, "the program", &p, &c)
	if !slices.Equal(list, []int{1, 2, 3}) {
		t.Error(list)
	}
}

// What is added to a list of a copy is nowhere else, whatever room is behind the first one's.
func TestCloneOfListsWithRoom(t *testing.T) {
	args := make([]int, 2, 100)
	p := ssa.Prog{Funcs: []ssa.Func{{Blocks: []ssa.Block{{Ins: []ssa.Ins{{Args: args}, {Args: args[:0]}}}}}}}
	c := p.Clone()
	for i := range 2 {
		c.Funcs[0].Blocks[0].Ins[i].Args = append(c.Funcs[0].Blocks[0].Ins[i].Args, 7, 8)
	}
	if !slices.Equal(args[:10], make([]int, 10)) {
		t.Error(args[:10])
	}
	if got := fmt.Sprint(c.Funcs[0].Blocks[0].Ins[0].Args, c.Funcs[0].Blocks[0].Ins[1].Args); got != "[0 0 7 8] [7 8]" {
		t.Error(got)
	}
}

// Clone asks nothing of what it copies.
func TestCloneOfWrongOnes(t *testing.T) {
	for _, p := range []ssa.Prog{
		{}, {Main: -7}, {Funcs: []ssa.Func{{Name: "f"}}},
		{Funcs: []ssa.Func{{Blocks: []ssa.Block{{}, {Params: []int{-1}, End: ssa.End{Kind: 77, Val: -3, Trap: 99, Ways: []ssa.Edge{{To: -9}, {To: math.MaxInt}}}}}}}},
		around(block(params(-1), trap(77), ssa.Ins{Op: -4, Dst: -8, Num: math.MinInt64, Bin: 99, Arr: -2, Fn: 88, Args: []int{math.MinInt}})),
	} {
		if c := p.Clone(); !reflect.DeepEqual(c, p) {
			t.Error(c, "isn't", p)
		}
		for _, f := range p.Funcs {
			if c := f.Clone(); !reflect.DeepEqual(c, f) {
				t.Error(c, "isn't", f)
			}
		}
	}
}

func TestFuncParams(t *testing.T) {
	f := fn("f", block(params(3, 1, 2), ret(1)), block(params(9), ret(9)))
	got := f.Params()
	if !slices.Equal(got, []int{3, 1, 2}) {
		t.Error(got)
	}
	got[0] = 77
	_ = append(got[:1], 78)
	if !slices.Equal(f.Blocks[0].Params, []int{3, 1, 2}) {
		t.Error("they are the function's own ones")
	}
	for _, f := range []ssa.Func{{}, fn("f"), fn("f", block(nil, ret(1)), block(params(9), ret(9)))} {
		if got := f.Params(); len(got) != 0 {
			t.Error(f, got)
		}
	}
}

func TestMost(t *testing.T) {
	for _, c := range []struct {
		f    ssa.Func
		want int
	}{
		{ssa.Func{}, 0},
		{fn("f", ssa.Block{}), 0},
		{fn("f", block(nil, trap(api.Zero))), 0},
		{fn("f", block(nil, ret(9), set(0, 8), store(1, 7, 6))), 0},
		{fn("f", block(nil, jump(to(3, 9)))), 0},
		{fn("f", block(nil, ret(1), num(1, 99))), 1},
		{fn("f", block(nil, ret(1), num(7, 1), num(3, 1))), 7},
		{fn("f", block(params(5), ret(1))), 5},
		{fn("f", block(params(5, 9, 2), ret(1), num(4, 1))), 9},
		{fn("f", block(params(5), ret(1), num(6, 1)), block(params(8), ret(1), num(7, 1))), 8},
		{fn("f", block(params(5), ret(1), num(6, 1)), block(params(7), ret(1), num(8, 1))), 8},
		{fn("f", block(nil, ret(1), bin(11, 1, 20, 20))), 11},
		{fn("f", block(nil, ret(1), get(12, 20))), 12},
		{fn("f", block(nil, ret(1), load(13, 20, 21))), 13},
		{fn("f", block(nil, ret(1), call(14, 20, 21))), 14},
		{fn("f", block(nil, ret(1), num(math.MaxInt, 1))), math.MaxInt},
		{fn("f", block(params(-4), ret(1), num(-5, 1))), 0},
		{whole().Funcs[0], 12},
		{whole().Funcs[1], 2},
	} {
		if got := c.f.Most(); got != c.want {
			t.Error(c.f, got, "want", c.want)
		}
	}
}

func TestReach(t *testing.T) {
	for _, c := range []struct {
		ways [][]int
		want string
	}{
		{nil, "[]"},
		{[][]int{{}}, "[true]"},
		{[][]int{{0}}, "[true]"},
		{[][]int{{}, {}}, "[true false]"},
		{[][]int{{}, {0}}, "[true false]"},
		{[][]int{{1}, {0}}, "[true true]"},
		{[][]int{{1}, {1}}, "[true true]"},
		{[][]int{{1}, {2}, {3}, {1}}, "[true true true true]"},
		{[][]int{{}, {2}, {3}, {1}}, "[true false false false]"},
		{[][]int{{3}, {2}, {1}, {}}, "[true false false true]"},
		{[][]int{{2, 2}, {3}, {4}, {}, {}}, "[true false true false true]"},
		{[][]int{{2, 1}, {3}, {4}, {}, {}}, "[true true true true true]"},
		{[][]int{{1, 4}, {}, {}, {}, {2}}, "[true true true false true]"},
		{[][]int{{-1, 2}, {}, {}}, "[true false true]"},
		{[][]int{{3, 2}, {}, {}}, "[true false true]"},
		{[][]int{{math.MaxInt, math.MinInt}, {}}, "[true false]"},
		{[][]int{{1}, {5, -7}, {3}, {2}}, "[true true false false]"},
	} {
		f := ssa.Func{}
		for _, ways := range c.ways {
			b := ssa.Block{}
			for _, w := range ways {
				b.End.Ways = append(b.End.Ways, to(w))
			}
			f.Blocks = append(f.Blocks, b)
		}
		if got := fmt.Sprint(f.Reach()); got != c.want {
			t.Error(c.ways, got, "want", c.want)
		}
	}
}

func TestReachOfVeryManyBlocks(t *testing.T) {
	f := ssa.Func{Blocks: make([]ssa.Block, 1<<20)}
	for b := range f.Blocks {
		f.Blocks[b].End = jump(to(b + 1))
	}
	f.Blocks[1<<19].End = ret(1)
	for b, got := range f.Reach() {
		if got != (b <= 1<<19) {
			t.Fatal(b, got)
		}
	}
}

// Nothing that is asked turns what it is asked of.
func TestAskingTurnsNothing(t *testing.T) {
	p := whole()
	p.Check()
	p.Clone()
	for _, f := range p.Funcs {
		f.Params()
		f.Most()
		f.Reach()
		f.Clone()
	}
	if !reflect.DeepEqual(p, whole()) {
		t.Error(p)
	}
}
