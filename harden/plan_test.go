package harden_test

import (
	"fmt"
	"maps"
	"math"
	"reflect"
	"slices"
	"testing"

	"palings/api"
	"palings/harden"
	"palings/ssa"
	"palings/taint"
)

var plans = []struct {
	what  string
	texts []string
	want  string
}{
	{"nothing", []string{"; 1=5; ret 1"}, "=0"},
	{"all that becomes known is public", []string{"; 1=get 1; 2=load 4 1; 3=get 2; 4=add 3 2; 5=div 1 1; set 2 4; if 1 to 1 to 2 | ; ret 4 | ; zero"}, "=0"},
	{"a Load by a Load", []string{"; 1=get 1; 2=load 4 1; 3=load 4 2; ret 3"}, "2 =1"},
	{"a Load by a Load by a Load", []string{"; 1=get 1; 2=load 4 1; 3=load 4 2; 4=load 4 3; ret 4"}, "2 3 =2"},
	{"what is made of a Load becomes known", []string{"; 1=get 1; 2=load 4 1; 3=add 2 1; 4=add 3 3; if 4 to 1 to 1 | ; ret 1"}, "2 =1"},
	{"of two Loads: what is made of both", []string{"; 1=get 1; 2=load 4 1; 3=load 3 1; 4=add 2 3; 5=add 4 1; if 5 to 1 to 1 | ; ret 1"}, "4 =1"},
	{"of a Load to two: the Load", []string{"; 1=get 1; 2=load 4 1; 3=add 2 1; 4=sub 2 1; 5=div 3 4; ret 5"}, "2 =1"},
	{"of two equally light ones the one near the Load", []string{"; 1=get 1; 2=load 4 1; to 1 2 | 3; 4=add 3 1; 5=load 4 4; ret 5"}, "2 =1"},

	{"a secret branch", []string{"; 1=get 2; if 1 to 1 to 1 | ; ret 1"}, "=0 0.0.1"},
	{"a secret index", []string{"; 1=get 2; 2=5; 3=load 4 1; store 3 1 2; ret 2"}, "=0 0.0.2 0.0.3"},
	{"what is stored in memory needs no fence", []string{"; 1=get 2; 2=5; store 3 2 1; set 0 1; ret 1"}, "=0"},
	{"one side of a division is secret", []string{"; 1=get 2; 2=5; 3=div 1 2; 4=div 2 1; ret 3"}, "=0 0.0.2 0.0.3"},
	{"both sides of a division are secret", []string{"; 1=get 2; 2=load 5 1; 3=div 1 2; 4=mod 3 3; if 4 to 1 to 1 | ; 5=div 1 1; ret 5"}, "=0 0.0.1 0.0.2 0.0.3 0.0.4 0.1.0"},
	{"one side is secret, one may be wrong", []string{"; 1=5; 2=load 5 1; 3=load 4 1; 4=div 2 3; 5=div 3 2; ret 4"}, "3 =1 0.0.3 0.0.4"},
	{"a guard ahead of a Load is no fence behind it", []string{"; 1=get 2; 2=load 4 1; 3=load 4 2; ret 3"}, "=0 0.0.1 0.0.2"},
	{"a block without an instruction", []string{"; 1=get 2; to 1 1 | 2; if 2 to 2 to 2 | ; ret 1"}, "=0 0.1.0"},
	{"places in order", []string{
		"; 1=get 2; to 2 | ; 2=5; ret 2 | ; 3=load 4 1; 4=5; store 3 1 4; if 1 to 3 to 1 | ; 5=mod 1 1; to 1",
		"; 1=5; ret 1",
		"1; 2=get 2; 3=5; if 2 to 1 to 1 | ; 4=load 3 2; 5=load 5 3; ret 3"},
		"|| =0 0.2.0 0.2.2 0.2.3 0.3.0 2.0.2 2.1.0"},
	{"where nothing comes what is secret becomes known, too", []string{"; 1=get 2; 2=load 4 1; ret 2 | ; 3=load 4 2; 4=get 2; 5=div 4 4; if 1 to 1 to 1"}, "=0 0.0.1 0.1.0 0.1.3"},
	{"what becomes known where nothing comes is cut, too", []string{"; 1=5; 2=load 4 1; ret 2 | ; 3=load 4 2; ret 3"}, "2 =1"},
	{"a way from where nothing comes is cut, too", []string{"; 1=5; 2=load 4 1; 3=load 4 1; set 0 3; to 1 2 | 4; if 4 to 2 to 2 | ; ret 4 | ; to 1 3"}, "4 =1"},

	{"weights of several functions", []string{
		"; 1=5; 2=load 4 1; 3=load 4 2; 4=call 1 3; ret 4",
		"1; 2=load 4 1; to 1 | ; 3=load 4 2; 4=load 4 3; if 4 to 1 to 2 | ; ret 1",
		"; 1=5; ret 1",
		"; 1=5; 2=load 4 1; ret 2",
		"; 1=5; to 1 | ; to 2 | ; 2=load 4 1; 3=load 4 2; if 3 to 2 to 3 | ; if 1 to 1 to 4 | ; ret 1"},
		"2|2 3 4|||2 3 =222"},
	{"guards and cuts of several functions", []string{
		"; 1=get 2; 2=call 1 1 1; 3=5; 4=load 4 3; 5=load 4 4; if 2 to 1 to 1 | ; ret 2",
		"1 2; 3=load 4 1; 4=div 1 2; ret 3"},
		"4| =1 0.0.5 1.0.0 1.0.1"},
}

func TestPlans(t *testing.T) {
	for _, c := range plans {
		p := program(t, c.texts...)
		h := plan(t, p)
		if got := fences(h); got != c.want {
			t.Errorf("%s: %q, not %q", c.what, got, c.want)
		}
		sinksAreGuarded(t, c.what, p, h)
	}
}

// sinksAreGuarded holds the guards against the sinks that the labels with the plan's cut tell: all of them are secret, and each has its place, once, in order.
func sinksAreGuarded(t *testing.T, what string, p ssa.Prog, h harden.Plan) {
	t.Helper()
	l, e := taint.Of(p, h.Cut)
	if e != api.OK {
		t.Fatal(what, e)
	}
	var want []harden.Place
	for _, s := range taint.Sinks(p, l) {
		if s.Label != api.Secret {
			t.Errorf("%s: %+v is left by %+v of %+v", what, s, h, p)
		}
		g := harden.Place{Fn: s.Fn, Block: s.Block, At: s.At}
		if !slices.Contains(want, g) {
			want = append(want, g)
		}
		if !h.Guarded(g) {
			t.Errorf("%s: %+v has no guard of %+v", what, s, h)
		}
	}
	if !slices.Equal(h.Guards, want) {
		t.Errorf("%s: guards %v, not %v, of %+v", what, h.Guards, want, p)
	}
}

func TestGuarded(t *testing.T) {
	p := program(t, "; 1=5; ret 1", "1; 2=get 2; to 2 | ; ret 1 | ; 3=5; 4=6; 5=load 4 2; 6=7; ret 1")
	h := plan(t, p)
	is := harden.Place{Fn: 1, Block: 2, At: 2}
	if !slices.Equal(h.Guards, []harden.Place{is}) {
		t.Fatal(h.Guards)
	}
	for fn := -1; fn < 4; fn++ {
		for b := -1; b < 4; b++ {
			for at := -1; at < 5; at++ {
				g := harden.Place{Fn: fn, Block: b, At: at}
				if h.Guarded(g) != (g == is) {
					t.Error(g, h.Guarded(g))
				}
			}
		}
	}
	if (harden.Plan{}).Guarded(harden.Place{}) {
		t.Error("nothing has a guard")
	}
	last := harden.Plan{Guards: []harden.Place{{Fn: 5}, {Block: 5}, {At: 5}}}
	for _, g := range []harden.Place{{}, {Fn: 5, At: 5}, {Block: 4}, {At: 6}} {
		if last.Guarded(g) {
			t.Error(g)
		}
	}
	for _, g := range last.Guards {
		if !last.Guarded(g) {
			t.Error(g)
		}
	}
}

func TestValues(t *testing.T) {
	h := harden.Plan{Cut: []map[int]bool{nil, {}, {7: true, 3: true, 5: false, 1 << 40: true, -2: true, 4: true}, {9: false}, {1: true}}}
	for fn, want := range [][]int{{}, {}, {-2, 3, 4, 7, 1 << 40}, {}, {1}} {
		if got := h.Values(fn); !slices.Equal(got, want) {
			t.Error(fn, got, want)
		}
	}
	for _, fn := range []int{-1, 5, 6, math.MaxInt, math.MinInt} {
		if got := h.Values(fn); got != nil {
			t.Error(fn, got)
		}
	}
	if got := (harden.Plan{}).Values(0); got != nil {
		t.Error(got)
	}
	if got := h.Fences(); got != 6 {
		t.Error(got)
	}
	many := harden.Plan{Cut: []map[int]bool{{}}}
	for v := range 500 {
		many.Cut[0][v*7919%500] = v%5 > 0
	}
	if got := many.Values(0); len(got) != 400 || !rising(got) {
		t.Error(got)
	}
}

func TestFences(t *testing.T) {
	guards := []harden.Place{{Fn: 0}, {Fn: 1}, {Fn: 2}}
	for _, c := range []struct {
		h    harden.Plan
		want int
	}{
		{harden.Plan{}, 0},
		{harden.Plan{Weight: 7}, 0},
		{harden.Plan{Guards: guards}, 3},
		{harden.Plan{Cut: []map[int]bool{{1: true}, nil, {1: true, 2: true, 3: false}}}, 3},
		{harden.Plan{Cut: []map[int]bool{{1: true, 2: true}}, Guards: guards, Weight: 9}, 5},
		{plan(t, program(t, "; 1=get 2; 2=5; 3=load 4 2; 4=load 4 3; 5=load 4 4; if 1 to 1 to 1 | ; 6=div 1 1; ret 6")), 4},
	} {
		if got := c.h.Fences(); got != c.want {
			t.Error(got, c.want, c.h)
		}
	}
}

// What a plan tells of a function, and what Net and Of tell, is new each time, and shares nothing.
func TestApart(t *testing.T) {
	text := "; 1=get 2; 2=5; 3=load 4 2; 4=load 4 3; if 1 to 1 4 to 1 3 | 5; 6=div 5 5; ret 6"
	p := program(t, text, text)
	first, second := plan(t, p), plan(t, p)
	want := fences(second)
	first.Cut[0][99], first.Guards[0].Fn = true, 77
	_ = append(first.Guards, harden.Place{})
	values := second.Values(0)
	values[0] = 99
	if got := fences(second); got != want || !maps.Equal(second.Cut[0], second.Cut[1]) {
		t.Errorf("%q, not %q", got, want)
	}
	n, of := net(t, p, 0)
	m, other := net(t, p, 0)
	if !reflect.DeepEqual(n, m) || !slices.Equal(of, other) {
		t.Error(n, m, of, other)
	}
	wanted := told(m, other)
	n.Weights[0], n.Ways[0][0], n.From[0], n.To[0], of[0] = 9, 9, 9, 9, 9
	_, _, _ = append(n.Weights, 8), append(n.From, 8), append(n.To, 8)
	if got := told(m, other); got != wanted {
		t.Errorf("%q, not %q", got, wanted)
	}
	before := fmt.Sprintf("%#v", p)
	for v := range first.Cut[1] {
		first.Cut[1][v] = false
	}
	if fmt.Sprintf("%#v", p) != before {
		t.Error("it was changed")
	}
}

// A list that is handed in may have room behind its end, which isn't the call's.
func TestRoomBehindLists(t *testing.T) {
	p := program(t, "; 1=5; 2=load 4 1; to 1 2 | 3; 4=load 4 3; 5=get 2; 6=load 4 5; ret 4")
	room := func(list []int) []int {
		all := append(slices.Clone(list), 97, 98, 99)
		return all[:len(list)]
	}
	var lists [][]int
	for b := range p.Funcs[0].Blocks {
		block := &p.Funcs[0].Blocks[b]
		block.Params = room(block.Params)
		lists = append(lists, block.Params)
		for k := range block.Ins {
			block.Ins[k].Args = room(block.Ins[k].Args)
			lists = append(lists, block.Ins[k].Args)
		}
		for k := range block.End.Ways {
			block.End.Ways[k].Args = room(block.End.Ways[k].Args)
			lists = append(lists, block.End.Ways[k].Args)
		}
	}
	net(t, p, 0)
	plan(t, p)
	for _, list := range lists {
		if got := list[len(list) : len(list)+3]; !slices.Equal(got, []int{97, 98, 99}) {
			t.Error(list, got)
		}
	}
	guards := append(make([]harden.Place, 0, 4), harden.Place{Fn: 1}, harden.Place{})
	h := harden.Plan{Cut: []map[int]bool{{3: true, 1: true, 2: false}}, Guards: guards}
	before := fmt.Sprint(h, guards[:4])
	h.Values(0)
	h.Guarded(harden.Place{})
	h.Fences()
	if fmt.Sprint(h, guards[:4]) != before {
		t.Error("it was changed", h, guards[:4])
	}
}
