package fold_test

import (
	"fmt"
	"math"
	"reflect"
	"slices"
	"testing"

	"palings/api"
	"palings/ast"
	"palings/fold"
	"palings/ssa"
)

// whole has each instruction and each end, a loop, a block that can't be come to, and functions with parameters.
func whole(t *testing.T) ssa.Prog {
	t.Helper()
	return around(t, read(t, "; 1=5; 2=get 0; 3=add 1 2; set 0 3; 4=load 2 1; store 2 1 4; 5=call 2 1 2; if 5 to 1 3 to 2 1 2 | 6; to 3 6 | 7 8; zero | 9; 10=sub 9 1; if 9 to 3 10 to 5 | 11; 12=7; to 3 12 | ; ret 10"))
}

// faults is one program for each thing that layer 7 asks and that isn't so.
var faults = map[string]func(p *ssa.Prog, blocks []ssa.Block){
	"a Size above":                    func(p *ssa.Prog, _ []ssa.Block) { p.Arrays[2].Size = api.MaxArray + 1 },
	"a Size below":                    func(p *ssa.Prog, _ []ssa.Block) { p.Arrays[2].Size = -1 },
	"a Hold":                          func(p *ssa.Prog, _ []ssa.Block) { p.Arrays[1].Hold = 3 },
	"no function":                     func(p *ssa.Prog, _ []ssa.Block) { p.Funcs = nil },
	"no Main":                         func(p *ssa.Prog, _ []ssa.Block) { p.Main = 3 },
	"a Main below":                    func(p *ssa.Prog, _ []ssa.Block) { p.Main = -1 },
	"a Main with parameters":          func(p *ssa.Prog, _ []ssa.Block) { p.Main = 2 },
	"a function without a block":      func(p *ssa.Prog, _ []ssa.Block) { p.Funcs[1].Blocks = nil },
	"too many parameters":             func(p *ssa.Prog, _ []ssa.Block) { p.Funcs[2].Blocks[0].Params = []int{11, 12, 13, 14, 15, 2, 1} },
	"a value of 0":                    func(_ *ssa.Prog, b []ssa.Block) { b[0].Ins[0].Dst = 0 },
	"a value below":                   func(_ *ssa.Prog, b []ssa.Block) { b[4].Ins[0].Dst = -12 },
	"a parameter of 0":                func(_ *ssa.Prog, b []ssa.Block) { b[4].Params[0] = 0 },
	"a value made twice":              func(_ *ssa.Prog, b []ssa.Block) { b[4].Ins[0].Dst = 5 },
	"too few Args":                    func(_ *ssa.Prog, b []ssa.Block) { b[0].Ins[2].Args = []int{1} },
	"too many Args":                   func(_ *ssa.Prog, b []ssa.Block) { b[0].Ins[0].Args = []int{1} },
	"a call's Args":                   func(_ *ssa.Prog, b []ssa.Block) { b[0].Ins[6].Args = []int{1, 2, 3} },
	"a Dst of a Set":                  func(_ *ssa.Prog, b []ssa.Block) { b[0].Ins[3].Dst = 99 },
	"no instruction":                  func(_ *ssa.Prog, b []ssa.Block) { b[0].Ins[0].Op = 0 },
	"no op":                           func(_ *ssa.Prog, b []ssa.Block) { b[0].Ins[2].Bin = 16 },
	"a Get of a list":                 func(_ *ssa.Prog, b []ssa.Block) { b[0].Ins[1].Arr = 2 },
	"a Set of no array":               func(_ *ssa.Prog, b []ssa.Block) { b[0].Ins[3].Arr = 3 },
	"a Load of a word":                func(_ *ssa.Prog, b []ssa.Block) { b[0].Ins[4].Arr = 0 },
	"a Store of no array":             func(_ *ssa.Prog, b []ssa.Block) { b[0].Ins[5].Arr = -1 },
	"a call of no function":           func(_ *ssa.Prog, b []ssa.Block) { b[0].Ins[6].Fn = 3 },
	"no end":                          func(_ *ssa.Prog, b []ssa.Block) { b[2].End = ssa.End{} },
	"a Jump of two ways":              func(_ *ssa.Prog, b []ssa.Block) { b[1].End.Ways = append(b[1].End.Ways, b[1].End.Ways[0]) },
	"a Branch of one way":             func(_ *ssa.Prog, b []ssa.Block) { b[3].End.Ways = b[3].End.Ways[:1] },
	"a Return with a way":             func(_ *ssa.Prog, b []ssa.Block) { b[5].End.Ways = []ssa.Edge{{To: 5}} },
	"a Branch by nothing":             func(_ *ssa.Prog, b []ssa.Block) { b[3].End.Val = 0 },
	"a Jump by something":             func(_ *ssa.Prog, b []ssa.Block) { b[1].End.Val = 1 },
	"a Trap of none":                  func(_ *ssa.Prog, b []ssa.Block) { b[2].End.Trap = api.NoTrap },
	"a Trap that is the machine's":    func(_ *ssa.Prog, b []ssa.Block) { b[2].End.Trap = api.Wild },
	"a Return with a trap":            func(_ *ssa.Prog, b []ssa.Block) { b[5].End.Trap = api.Zero },
	"a way to no block":               func(_ *ssa.Prog, b []ssa.Block) { b[1].End.Ways[0].To = 6 },
	"a way to a block below":          func(_ *ssa.Prog, b []ssa.Block) { b[4].End.Ways[0].To = -1 },
	"a way to the first block":        func(_ *ssa.Prog, b []ssa.Block) { b[4].End.Ways[0] = ssa.Edge{} },
	"a way with too few Args":         func(_ *ssa.Prog, b []ssa.Block) { b[1].End.Ways[0].Args = nil },
	"a use of what isn't made":        func(_ *ssa.Prog, b []ssa.Block) { b[5].End.Val = 99 },
	"a use ahead":                     func(_ *ssa.Prog, b []ssa.Block) { b[0].Ins[2].Args[0] = 3 },
	"a use of what is made elsewhere": func(_ *ssa.Prog, b []ssa.Block) { b[1].End.Ways[0].Args[0] = 7 },
}

func TestFaults(t *testing.T) {
	if e := whole(t).Check(); e != api.OK {
		t.Fatal(e)
	}
	for what, spoil := range faults {
		p := whole(t)
		spoil(&p, p.Funcs[0].Blocks)
		before := fmt.Sprintf("%#v", p)
		if q, e := fold.Program(p); e != api.ErrBad || !reflect.DeepEqual(q, ssa.Prog{}) {
			t.Errorf("%s: %d, %+v", what, e, q)
		}
		if fmt.Sprintf("%#v", p) != before {
			t.Error(what, "was changed")
		}
	}
	if q, e := fold.Program(ssa.Prog{}); e != api.ErrBad || !reflect.DeepEqual(q, ssa.Prog{}) {
		t.Error("nothing", e, q)
	}
}

// What is no fault of layer 7 is none here.
func TestOddOnes(t *testing.T) {
	p := whole(t)
	p.Funcs[0].Blocks[4] = ssa.Block{Params: []int{math.MaxInt}, Ins: []ssa.Ins{{Op: ssa.Set, Args: []int{-77}}}, End: ssa.End{Kind: ssa.Return, Val: 1 << 50, Trap: api.Stack}}
	p.Funcs[0].Name = "one"
	for k := range p.Arrays {
		p.Arrays[k].Name = ""
	}
	q := folded(t, p)
	if got := written(q.Funcs[0]); got != "; 1=5; 2=get 0; 3=add 1 2; set 0 3; 4=load 2 1; store 2 1 4; 5=call 2 1 2; if 5 to 1 to 2 | ; to 3 3 | ; zero | 9; 10=sub 9 1; if 9 to 3 10 to 4 | ; ret 10" {
		t.Error(got)
	}
}

func TestManyArraysAndFunctions(t *testing.T) {
	p := whole(t)
	for n := range 300 {
		p.Arrays = append(p.Arrays, ssa.Array{Name: fmt.Sprint("a", n%7), Hold: ast.Hold(n % 3), Size: n % 5})
		f := read(t, fmt.Sprintf("; 1=%d; 2=1; 3=add 1 2; ret 3", n))
		f.Name = fmt.Sprint("f", n%9)
		p.Funcs = append(p.Funcs, f)
	}
	p.Main = 250
	q := folded(t, p)
	for n := range 300 {
		if got := written(q.Funcs[3+n]); got != fmt.Sprintf("; 3=%d; ret 3", n+1) && n != 0 && n != 1 {
			t.Error(n, got)
		}
	}
}

// Values may be as great as numbers are, and keep their numbers.
func TestNumbersOfValues(t *testing.T) {
	const most = math.MaxInt
	turn{"", fmt.Sprintf("; %d=get 0; %d=7; 3=add %d %d; to 1 %d 3 | %d 9; %d=sub %d 9; ret %d", most, most-1, most, most-1, most, most-2, most-3, most-2, most-3),
		fmt.Sprintf("; %d=get 0; %d=7; 3=add %d %d; to 1 | ; %d=sub %d 3; ret %d", most, most-1, most, most-1, most-3, most, most-3)}.try(t)
}

// lists finds each list, wherever it is nested.
func lists(v reflect.Value, tell func(reflect.Value)) {
	switch v.Kind() {
	case reflect.Slice:
		tell(v)
		for i := range v.Len() {
			lists(v.Index(i), tell)
		}
	case reflect.Struct:
		for i := range v.NumField() {
			lists(v.Field(i), tell)
		}
	}
}

// noneShared looks whether the lists of some things have any memory in common, what is behind their ends among it.
func noneShared(t *testing.T, things ...any) {
	t.Helper()
	met := map[uintptr]int{}
	for _, x := range things {
		lists(reflect.ValueOf(x), func(v reflect.Value) {
			for i := range v.Cap() {
				at := v.Slice(0, v.Cap()).Index(i).Addr().Pointer()
				if met[at]++; met[at] > 1 {
					t.Error("shares a list", v)
				}
			}
		})
	}
	if len(met) < 4 {
		t.Error("few lists", len(met))
	}
}

func TestNothingIsShared(t *testing.T) {
	q := folded(t, whole(t))
	noneShared(t, whole(t), q)
	for seed := range int64(200) {
		p, _ := made(seed)
		q := folded(t, p)
		noneShared(t, p, q)
		again := folded(t, q)
		noneShared(t, q, again)
		if fmt.Sprint(again) != fmt.Sprint(q) {
			t.Errorf("seed %d: folded again: %+v, %+v", seed, q, again)
		}
		f := p.Funcs[0]
		noneShared(t, f, fold.Func(f))
	}
}

// One list that stands in several places of what is handed in is several in what comes out.
func TestOneListTwice(t *testing.T) {
	list := []int{1, 2}
	p := around(t, read(t, "; 1=get 0; 2=get 1; if 1 to 1 1 2 to 2 1 2 | 3 4; 5=sub 1 2; set 0 5; 6=call 2 1 2; to 2 1 2 | 7 8; store 2 1 2; ret 7"))
	b := p.Funcs[0].Blocks
	b[0].End.Ways[0].Args, b[0].End.Ways[1].Args = list, list
	b[1].Ins[0].Args, b[1].Ins[2].Args, b[1].End.Ways[0].Args = list, list, list
	b[2].Ins[0].Args = list
	q := folded(t, p)
	noneShared(t, q)
	if !slices.Equal(list, []int{1, 2}) {
		t.Error(list)
	}
	turn{"the same", written(p.Funcs[0]), "; 1=get 0; 2=get 1; if 1 to 1 to 2 | ; 5=sub 1 2; set 0 5; 6=call 2 1 2; to 2 | ; store 2 1 2; ret 1"}.try(t)
}
