package taint_test

import (
	"fmt"
	"math"
	"reflect"
	"testing"

	"palings/api"
	"palings/ast"
	"palings/ssa"
	"palings/taint"
)

// whole has each instruction and each end, a loop, a block that can't be come to, and functions with parameters.
func whole(t *testing.T) ssa.Prog {
	t.Helper()
	return program(t,
		"; 1=5; 2=get 0; 3=add 1 2; set 0 3; 4=load 3 1; store 3 1 4; 5=call 2 1 2; if 5 to 1 3 to 2 1 2 | 6; to 3 6 | 7 8; zero | 9; 10=sub 9 1; if 9 to 3 10 to 5 | 11; 12=7; to 3 12 | ; ret 10",
		"; 1=get 1; ret 1", "2 1; 3=sub 1 2; ret 3")
}

// faults is one program for each thing that layer 7 asks and that isn't so.
var faults = map[string]func(p *ssa.Prog, blocks []ssa.Block){
	"a Size above":                    func(p *ssa.Prog, _ []ssa.Block) { p.Arrays[3].Size = api.MaxArray + 1 },
	"a Size below":                    func(p *ssa.Prog, _ []ssa.Block) { p.Arrays[3].Size = -1 },
	"a Hold above":                    func(p *ssa.Prog, _ []ssa.Block) { p.Arrays[1].Hold = 3 },
	"a Hold below":                    func(p *ssa.Prog, _ []ssa.Block) { p.Arrays[1].Hold = -1 },
	"no function":                     func(p *ssa.Prog, _ []ssa.Block) { p.Funcs = nil },
	"no Main":                         func(p *ssa.Prog, _ []ssa.Block) { p.Main = 3 },
	"a Main below":                    func(p *ssa.Prog, _ []ssa.Block) { p.Main = -1 },
	"a Main with parameters":          func(p *ssa.Prog, _ []ssa.Block) { p.Main = 2 },
	"a function without a block":      func(p *ssa.Prog, _ []ssa.Block) { p.Funcs[1].Blocks = nil },
	"too many parameters":             func(p *ssa.Prog, _ []ssa.Block) { p.Funcs[2].Blocks[0].Params = []int{11, 12, 13, 14, 15, 2, 1} },
	"a value of 0":                    func(_ *ssa.Prog, b []ssa.Block) { b[0].Ins[0].Dst = 0 },
	"a value below":                   func(_ *ssa.Prog, b []ssa.Block) { b[4].Ins[0].Dst = -12 },
	"a parameter of 0":                func(_ *ssa.Prog, b []ssa.Block) { b[4].Params[0] = 0 },
	"a value made twice":              func(_ *ssa.Prog, b []ssa.Block) { b[4].Ins[0].Dst = 5 },
	"too few Args":                    func(_ *ssa.Prog, b []ssa.Block) { b[0].Ins[2].Args = []int{1} },
	"too many Args":                   func(_ *ssa.Prog, b []ssa.Block) { b[0].Ins[0].Args = []int{1} },
	"a Load without Args":             func(_ *ssa.Prog, b []ssa.Block) { b[0].Ins[4].Args = nil },
	"a Store without Args":            func(_ *ssa.Prog, b []ssa.Block) { b[0].Ins[5].Args = nil },
	"a call's Args":                   func(_ *ssa.Prog, b []ssa.Block) { b[0].Ins[6].Args = []int{1, 2, 3} },
	"a Dst of a Set":                  func(_ *ssa.Prog, b []ssa.Block) { b[0].Ins[3].Dst = 99 },
	"no instruction":                  func(_ *ssa.Prog, b []ssa.Block) { b[0].Ins[0].Op = 0 },
	"an instruction above":            func(_ *ssa.Prog, b []ssa.Block) { b[0].Ins[0].Op = ssa.Call + 1 },
	"no op":                           func(_ *ssa.Prog, b []ssa.Block) { b[0].Ins[2].Bin = 16 },
	"a Get of a list":                 func(_ *ssa.Prog, b []ssa.Block) { b[0].Ins[1].Arr = 3 },
	"a Set of no array":               func(_ *ssa.Prog, b []ssa.Block) { b[0].Ins[3].Arr = 6 },
	"a Load of a word":                func(_ *ssa.Prog, b []ssa.Block) { b[0].Ins[4].Arr = 0 },
	"a Store of no array":             func(_ *ssa.Prog, b []ssa.Block) { b[0].Ins[5].Arr = -1 },
	"a call of no function":           func(_ *ssa.Prog, b []ssa.Block) { b[0].Ins[6].Fn = 3 },
	"a call of a function below":      func(_ *ssa.Prog, b []ssa.Block) { b[0].Ins[6].Fn = -1 },
	"no end":                          func(_ *ssa.Prog, b []ssa.Block) { b[2].End = ssa.End{} },
	"a Jump of two ways":              func(_ *ssa.Prog, b []ssa.Block) { b[1].End.Ways = append(b[1].End.Ways, b[1].End.Ways[0]) },
	"a Branch of one way":             func(_ *ssa.Prog, b []ssa.Block) { b[3].End.Ways = b[3].End.Ways[:1] },
	"a Return with a way":             func(_ *ssa.Prog, b []ssa.Block) { b[5].End.Ways = []ssa.Edge{{To: 5}} },
	"a Branch by nothing":             func(_ *ssa.Prog, b []ssa.Block) { b[3].End.Val = 0 },
	"a Jump by something":             func(_ *ssa.Prog, b []ssa.Block) { b[1].End.Val = 1 },
	"a Trap of none":                  func(_ *ssa.Prog, b []ssa.Block) { b[2].End.Trap = api.NoTrap },
	"a Trap that is the machine's":    func(_ *ssa.Prog, b []ssa.Block) { b[2].End.Trap = api.Wild },
	"a Return with a trap":            func(_ *ssa.Prog, b []ssa.Block) { b[5].End.Trap = api.Zero },
	"a way to no block":               func(_ *ssa.Prog, b []ssa.Block) { b[1].End.Ways[0].To = 6 },
	"a way to a block below":          func(_ *ssa.Prog, b []ssa.Block) { b[4].End.Ways[0].To = -1 },
	"a way to the first block":        func(_ *ssa.Prog, b []ssa.Block) { b[4].End.Ways[0] = ssa.Edge{} },
	"a way with too few Args":         func(_ *ssa.Prog, b []ssa.Block) { b[1].End.Ways[0].Args = nil },
	"a use of what isn't made":        func(_ *ssa.Prog, b []ssa.Block) { b[5].End.Val = 99 },
	"a use ahead":                     func(_ *ssa.Prog, b []ssa.Block) { b[0].Ins[2].Args[0] = 3 },
	"a use of what is made elsewhere": func(_ *ssa.Prog, b []ssa.Block) { b[1].End.Ways[0].Args[0] = 7 },
}

func TestFaults(t *testing.T) {
	for what, spoil := range faults {
		for _, cut := range [][]map[int]bool{nil, cuts([]int{1, 4}, []int{1}), {nil, nil, {1: true}, nil, {}}} {
			p := whole(t)
			spoil(&p, p.Funcs[0].Blocks)
			before := fmt.Sprintf("%#v %#v", p, cut)
			if l, e := taint.Of(p, cut); e != api.ErrBad || !reflect.DeepEqual(l, taint.Labels{}) {
				t.Errorf("%s: %d, %+v", what, e, l)
			}
			if fmt.Sprintf("%#v %#v", p, cut) != before {
				t.Error(what, "was changed")
			}
		}
	}
	if l, e := taint.Of(ssa.Prog{}, nil); e != api.ErrBad || !reflect.DeepEqual(l, taint.Labels{}) {
		t.Error("nothing", e, l)
	}
}

// Sinks, Writes and Known are asked of any program; those that aren't right, too, must come to an end.
func TestWhatIsNotRight(t *testing.T) {
	l := labels(t, whole(t), nil)
	for what, spoil := range faults {
		p := whole(t)
		spoil(&p, p.Funcs[0].Blocks)
		before := fmt.Sprintf("%#v %#v", p, l)
		writes := taint.Writes(p)
		if len(writes) != len(p.Arrays) {
			t.Error(what, writes)
		}
		taint.Sinks(p, l)
		taint.Sinks(p, taint.Labels{})
		for _, f := range p.Funcs {
			for _, b := range f.Blocks {
				for _, i := range b.Ins {
					taint.May(writes, i)
					taint.Known(i)
				}
			}
		}
		if fmt.Sprintf("%#v %#v", p, l) != before {
			t.Error(what, "was changed")
		}
	}
}

// What is no fault of layer 7 is none here, either: where nothing comes uses may be of anything.
func TestOddOnes(t *testing.T) {
	p := whole(t)
	const want = "2t,3t,4t,6t,8t,9t,10t|1t|" + still + "---"
	if got := told(labels(t, p, nil)); got != want {
		t.Error(got)
	}
	p.Funcs[0].Blocks[4] = ssa.Block{
		Params: []int{math.MaxInt},
		Ins: []ssa.Ins{
			{Op: ssa.Set, Args: []int{-77}},
			{Op: ssa.Load, Dst: 78, Arr: closedList, Args: []int{0}},
			{Op: ssa.Store, Arr: ownList, Args: []int{math.MinInt, 78}},
			{Op: ssa.Call, Dst: 79, Fn: 2, Args: []int{78, 1 << 40}},
		},
		End: ssa.End{Kind: ssa.Return, Val: 78, Trap: api.Stack},
	}
	l := labels(t, p, cuts([]int{math.MaxInt, 78}))
	if got := told(l); got != want {
		t.Error(got)
	}
	if got := known(taint.Sinks(p, l)); got != "0.3.1:9t" {
		t.Error(got)
	}
}

// All functions call one another in a ring; what they return is secret only if one of them says so.
func TestManyFunctionsInARing(t *testing.T) {
	for _, c := range []struct {
		text string
		want api.Label
	}{{"1; 2=call %d 1; ret 1", api.Secret}, {"1; 2=call %d 1; ret 2", api.Public}} {
		p := program(t, "; 1=get 2; ret 1")
		p.Funcs[0] = read(t, "; 1=get 2; 2=call 300 1; ret 2")
		for n := range 500 {
			p.Arrays = append(p.Arrays, ssa.Array{Size: n % 3, Hold: ast.Hold(n % 2)})
			p.Funcs = append(p.Funcs, read(t, fmt.Sprintf(c.text, (n+7)%500+1)))
		}
		l := labels(t, p, nil)
		for fn, vals := range l.Vals {
			if vals[1] != api.Secret || vals[2] != c.want || l.Rets[fn] != c.want {
				t.Fatal(c.text, fn, vals, l.Rets[fn])
			}
		}
	}
}
