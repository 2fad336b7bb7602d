package harden_test

import (
	"fmt"
	"math"
	"reflect"
	"testing"

	"palings/api"
	"palings/cut"
	"palings/harden"
	"palings/ssa"
)

// whole has each instruction and each end, a loop, a block that can't be come to, and functions with parameters.
func whole(t *testing.T) ssa.Prog {
	t.Helper()
	return program(t,
		"; 1=5; 2=get 0; 3=add 1 2; set 0 3; 4=load 3 1; store 3 1 4; 5=call 2 1 2; if 5 to 1 3 to 2 1 2 | 6; to 3 6 | 7 8; zero | 9; 10=sub 9 1; if 9 to 3 10 to 5 | 11; 12=7; to 3 12 | ; ret 10",
		"; 1=get 1; ret 1", "2 1; 3=sub 1 2; ret 3")
}

// faults is one program for each thing that layer 7 asks and that isn't so.
var faults = map[string]func(p *ssa.Prog, blocks []ssa.Block){
	"a Size above":                    func(p *ssa.Prog, _ []ssa.Block) { p.Arrays[3].Size = api.MaxArray + 1 },
	"a Size below":                    func(p *ssa.Prog, _ []ssa.Block) { p.Arrays[3].Size = -1 },
	"a Hold above":                    func(p *ssa.Prog, _ []ssa.Block) { p.Arrays[1].Hold = 3 },
	"a Hold below":                    func(p *ssa.Prog, _ []ssa.Block) { p.Arrays[1].Hold = -1 },
	"no function":                     func(p *ssa.Prog, _ []ssa.Block) { p.Funcs = nil },
	"no Main":                         func(p *ssa.Prog, _ []ssa.Block) { p.Main = 3 },
	"a Main below":                    func(p *ssa.Prog, _ []ssa.Block) { p.Main = -1 },
	"a Main with parameters":          func(p *ssa.Prog, _ []ssa.Block) { p.Main = 2 },
	"a function without a block":      func(p *ssa.Prog, _ []ssa.Block) { p.Funcs[1].Blocks = nil },
	"too many parameters":             func(p *ssa.Prog, _ []ssa.Block) { p.Funcs[2].Blocks[0].Params = []int{11, 12, 13, 14, 15, 2, 1} },
	"a value of 0":                    func(_ *ssa.Prog, b []ssa.Block) { b[0].Ins[0].Dst = 0 },
	"a value below":                   func(_ *ssa.Prog, b []ssa.Block) { b[4].Ins[0].Dst = -12 },
	"a parameter of 0":                func(_ *ssa.Prog, b []ssa.Block) { b[4].Params[0] = 0 },
	"a value made twice":              func(_ *ssa.Prog, b []ssa.Block) { b[4].Ins[0].Dst = 5 },
	"too few Args":                    func(_ *ssa.Prog, b []ssa.Block) { b[0].Ins[2].Args = []int{1} },
	"too many Args":                   func(_ *ssa.Prog, b []ssa.Block) { b[0].Ins[0].Args = []int{1} },
	"a Load without Args":             func(_ *ssa.Prog, b []ssa.Block) { b[0].Ins[4].Args = nil },
	"a Store without Args":            func(_ *ssa.Prog, b []ssa.Block) { b[0].Ins[5].Args = nil },
	"a call's Args":                   func(_ *ssa.Prog, b []ssa.Block) { b[0].Ins[6].Args = []int{1, 2, 3} },
	"a Dst of a Set":                  func(_ *ssa.Prog, b []ssa.Block) { b[0].Ins[3].Dst = 99 },
	"no instruction":                  func(_ *ssa.Prog, b []ssa.Block) { b[0].Ins[0].Op = 0 },
	"an instruction above":            func(_ *ssa.Prog, b []ssa.Block) { b[0].Ins[0].Op = ssa.Call + 1 },
	"no op":                           func(_ *ssa.Prog, b []ssa.Block) { b[0].Ins[2].Bin = 16 },
	"a Get of a list":                 func(_ *ssa.Prog, b []ssa.Block) { b[0].Ins[1].Arr = 3 },
	"a Set of no array":               func(_ *ssa.Prog, b []ssa.Block) { b[0].Ins[3].Arr = 6 },
	"a Load of a word":                func(_ *ssa.Prog, b []ssa.Block) { b[0].Ins[4].Arr = 0 },
	"a Store of no array":             func(_ *ssa.Prog, b []ssa.Block) { b[0].Ins[5].Arr = -1 },
	"a call of no function":           func(_ *ssa.Prog, b []ssa.Block) { b[0].Ins[6].Fn = 3 },
	"a call of a function below":      func(_ *ssa.Prog, b []ssa.Block) { b[0].Ins[6].Fn = -1 },
	"no end":                          func(_ *ssa.Prog, b []ssa.Block) { b[2].End = ssa.End{} },
	"a Jump of two ways":              func(_ *ssa.Prog, b []ssa.Block) { b[1].End.Ways = append(b[1].End.Ways, b[1].End.Ways[0]) },
	"a Branch of one way":             func(_ *ssa.Prog, b []ssa.Block) { b[3].End.Ways = b[3].End.Ways[:1] },
	"a Return with a way":             func(_ *ssa.Prog, b []ssa.Block) { b[5].End.Ways = []ssa.Edge{{To: 5}} },
	"a Branch by nothing":             func(_ *ssa.Prog, b []ssa.Block) { b[3].End.Val = 0 },
	"a Jump by something":             func(_ *ssa.Prog, b []ssa.Block) { b[1].End.Val = 1 },
	"a Trap of none":                  func(_ *ssa.Prog, b []ssa.Block) { b[2].End.Trap = api.NoTrap },
	"a Trap that is the machine's":    func(_ *ssa.Prog, b []ssa.Block) { b[2].End.Trap = api.Wild },
	"a Return with a trap":            func(_ *ssa.Prog, b []ssa.Block) { b[5].End.Trap = api.Zero },
	"a way to no block":               func(_ *ssa.Prog, b []ssa.Block) { b[1].End.Ways[0].To = 6 },
	"a way to a block below":          func(_ *ssa.Prog, b []ssa.Block) { b[4].End.Ways[0].To = -1 },
	"a way to the first block":        func(_ *ssa.Prog, b []ssa.Block) { b[4].End.Ways[0] = ssa.Edge{} },
	"a way with too few Args":         func(_ *ssa.Prog, b []ssa.Block) { b[1].End.Ways[0].Args = nil },
	"a use of what isn't made":        func(_ *ssa.Prog, b []ssa.Block) { b[5].End.Val = 99 },
	"a use ahead":                     func(_ *ssa.Prog, b []ssa.Block) { b[0].Ins[2].Args[0] = 3 },
	"a use of what is made elsewhere": func(_ *ssa.Prog, b []ssa.Block) { b[1].End.Ways[0].Args[0] = 7 },
}

// noNet asks for a net that there is none of: beside the error there must be nothing.
func noNet(t *testing.T, what string, p ssa.Prog, fn int) {
	t.Helper()
	before := fmt.Sprintf("%#v", p)
	n, values, e := harden.Net(p, fn)
	if e != api.ErrBad || !reflect.DeepEqual(n, cut.Net{}) || values != nil {
		t.Errorf("%s, function %d: %d, %+v, %v", what, fn, e, n, values)
	}
	if fmt.Sprintf("%#v", p) != before {
		t.Error(what, "was changed")
	}
}

// noPlan asks for a plan that there is none of.
func noPlan(t *testing.T, what string, p ssa.Prog, want api.Errno) {
	t.Helper()
	before := fmt.Sprintf("%#v", p)
	if h, e := harden.Of(p); e != want || !reflect.DeepEqual(h, harden.Plan{}) {
		t.Errorf("%s: %d, %+v", what, e, h)
	}
	if fmt.Sprintf("%#v", p) != before {
		t.Error(what, "was changed")
	}
}

func TestFaults(t *testing.T) {
	for what, spoil := range faults {
		p := whole(t)
		spoil(&p, p.Funcs[0].Blocks)
		for fn := -1; fn < 4; fn++ {
			noNet(t, what, p, fn)
		}
		noPlan(t, what, p, api.ErrBad)
	}
	noNet(t, "nothing", ssa.Prog{}, 0)
	noPlan(t, "nothing", ssa.Prog{}, api.ErrBad)
}

func TestNoSuchFunction(t *testing.T) {
	p := whole(t)
	for _, fn := range []int{-1, 3, 4, -3, 1 << 20, 1 << 32, math.MaxInt, math.MinInt} {
		noNet(t, "no such function", p, fn)
	}
	for fn, want := range []string{"2 3 4 6 8 9*10 10*10; 2>3 2>8 3>6 6>9 9>10 10>9; 2 4; 9", "1; ; 1; ", "; ; ; "} {
		if got := told(net(t, p, fn)); got != want {
			t.Errorf("function %d: %q, not %q", fn, got, want)
		}
	}
}

// What is no fault of layer 7 is none here, either: where nothing comes uses may be of anything.
func TestOddOnes(t *testing.T) {
	p := program(t, "; 1=5; 2=load 4 1; to 1 2 | 3; ret 3 | ; ret 1")
	p.Funcs[0].Blocks[2] = ssa.Block{
		Params: []int{math.MaxInt},
		Ins: []ssa.Ins{
			{Op: ssa.Set, Args: []int{-77}},
			{Op: ssa.Load, Dst: 78, Arr: closedList, Args: []int{0}},
			{Op: ssa.Store, Arr: ownList, Args: []int{math.MinInt, 78}},
			{Op: ssa.Bin, Bin: 4, Dst: 79, Args: []int{79, 1 << 40}},
			{Op: ssa.Load, Dst: 80, Arr: ownList, Args: []int{80}},
		},
		End: ssa.End{Kind: ssa.Branch, Val: 78, Ways: []ssa.Edge{{To: 1, Args: []int{0}}, {To: 1, Args: []int{-2}}}},
	}
	if got, want := told(net(t, p, 0)), "2 3; 2>3; 2; "; got != want {
		t.Errorf("%q, not %q", got, want)
	}
	if got, want := fences(plan(t, p)), "=0"; got != want {
		t.Errorf("%q, not %q", got, want)
	}
}
