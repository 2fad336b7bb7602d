package taint_test

import (
	"fmt"
	"slices"
	"testing"

	"palings/api"
	"palings/ssa"
	"palings/taint"
	"palings/word"
)

func TestKnown(t *testing.T) {
	for o := ssa.Op(-2); o < 12; o++ {
		for b := word.Op(-2); b < 20; b++ {
			for count := range 5 {
				args := []int{7, 8, 9, 10}[:count]
				var want []int
				switch {
				case o == ssa.Load || o == ssa.Store:
					want = args[:min(1, count)]
				case o == ssa.Bin && (b == word.Div || b == word.Mod):
					want = args[:min(2, count)]
				}
				i := ssa.Ins{Op: o, Bin: b, Dst: 4, Args: args, Arr: 1, Fn: 2, Num: 5}
				got := taint.Known(i)
				if !slices.Equal(got, want) {
					t.Error(o, b, args, got, want)
				}
				for k := range got {
					got[k] = 99
				}
				_ = append(got, 98)
				if fmt.Sprint(args) != fmt.Sprint([]int{7, 8, 9, 10}[:count]) || !slices.Equal(taint.Known(i), want) {
					t.Error("it is not new", o, b, args)
				}
			}
		}
	}
}

func TestSinks(t *testing.T) {
	for _, c := range []struct {
		what  string
		texts []string
		cut   []map[int]bool
		want  string
	}{
		{"nothing", one("; 1=5; ret 1"), nil, ""},
		{"what is public", one("; 1=get 1; 2=load 4 1; 3=div 1 1; store 3 1 2; if 1 to 1 to 2 | ; ret 1 | ; ret 1"), nil, "0.0.1:1t 0.0.2:1t 0.0.2:1t 0.0.3:1t 0.0.4:1t"},
		{"what is public and stays", one("; 1=get 1; 2=load 4 1; 3=div 1 1; if 1 to 1 to 2 | ; ret 1 | ; ret 1"), nil, ""},
		{"what is returned, handed on, laid down", one("; 1=get 2; 2=call 1 1; set 0 1; 3=0; store 3 3 1; 4=add 1 1; 5=lt 1 1; ret 1", "1; ret 1"), nil, ""},
		{"an index of a Load", one("; 1=get 2; 2=load 4 1; ret 2"), nil, "0.0.1:1s"},
		{"an index of a Store", one("; 1=get 2; 2=0; store 3 1 2; ret 2"), nil, "0.0.2:1s"},
		{"a dividend", one("; 1=get 2; 2=5; 3=div 1 2; ret 2"), nil, "0.0.2:1s"},
		{"a divisor", one("; 1=get 2; 2=5; 3=mod 2 1; ret 2"), nil, "0.0.2:1s"},
		{"both", one("; 1=get 2; 2=0; 3=load 4 2; 4=mod 3 1; 5=div 1 3; ret 2"), nil, "0.0.3:3t 0.0.3:1s 0.0.4:1s 0.0.4:3t"},
		{"both are one", one("; 1=get 2; 2=div 1 1; ret 2"), nil, "0.0.1:1s 0.0.1:1s"},
		{"a branch", one("; 1=get 2; if 1 to 1 to 1 | ; ret 1"), nil, "0.0.1:1s"},
		{"a branch without an instruction", one("; 1=get 2; to 1 1 | 2; if 2 to 2 to 2 | ; ret 1"), nil, "0.1.0:2s"},
		{"a jump's and a branch's Args", one("; 1=get 2; 2=5; to 1 1 | 3; if 2 to 2 3 to 2 1 | 4; ret 1"), nil, ""},
		{"a Load by a Load", one("; 1=get 1; 2=load 4 1; 3=load 4 2; 4=load 4 3; ret 2"), nil, "0.0.2:2t 0.0.3:3t"},
		{"the same, one is cut", one("; 1=get 1; 2=load 4 1; 3=load 4 2; 4=load 4 3; ret 2"), cuts([]int{2}), "0.0.3:3t"},
		{"several functions and blocks", one("; 1=get 2; to 2 | ; 2=load 4 1; if 2 to 3 to 3 | ; to 1 | ; 3=load 4 1; if 3 to 4 to 4 | ; ret 1", "; 1=5; ret 1", "; 1=get 2; 2=div 1 1; if 2 to 1 to 1 | ; 3=load 4 2; ret 1"), nil,
			"0.1.0:1s 0.1.1:2s 0.3.0:1s 0.3.1:3s 2.0.1:1s 2.0.1:1s 2.0.2:2s 2.1.0:2s"},
		{"in a function that nobody calls", one("; 1=5; ret 1", "1 2; 3=get 2; 4=load 4 3; ret 1"), nil, "1.0.1:3s"},
		{"where nothing comes, of what is made where something does", one("; 1=get 2; ret 1 | ; 2=load 4 1; if 2 to 1 to 1"), nil, "0.1.0:1s"},
	} {
		p := program(t, c.texts...)
		if got := known(taint.Sinks(p, labels(t, p, c.cut))); got != c.want {
			t.Errorf("%s: %s, not %s: %q", c.what, got, c.want, c.texts)
		}
	}
}

// The labels are those that are handed in; of what they don't tell they are Public.
func TestSinksOfOtherLabels(t *testing.T) {
	p := program(t, "; 1=get 2; 2=load 4 1; 3=div 1 2; if 3 to 1 to 1 | ; ret 1", "; 1=5; 2=load 4 1; ret 1")
	for _, c := range []struct {
		vals []map[int]api.Label
		want string
	}{
		{nil, ""},
		{[]map[int]api.Label{}, ""},
		{[]map[int]api.Label{nil, nil, nil}, ""},
		{[]map[int]api.Label{{2: api.Secret}}, "0.0.2:2s"},
		{[]map[int]api.Label{{1: api.Transient, 2: api.Public, 9: api.Secret, 0: api.Secret}}, "0.0.1:1t 0.0.2:1t"},
		{[]map[int]api.Label{nil, {1: api.Secret}}, "1.0.1:1s"},
		{[]map[int]api.Label{{3: api.Secret}, {1: api.Transient}, {1: api.Secret}}, "0.0.3:3s 1.0.1:1t"},
	} {
		l := taint.Labels{Vals: c.vals}
		if got := known(taint.Sinks(p, l)); got != c.want {
			t.Error(c.vals, got, c.want)
		}
	}
	if got := taint.Sinks(ssa.Prog{}, labels(t, p, nil)); len(got) != 0 {
		t.Error(got)
	}
}
