package taint_test

import (
	"fmt"
	"testing"

	"palings/api"
	"palings/ast"
	"palings/ssa"
	"palings/taint"
	"palings/word"
)

var all = []api.Label{api.Public, api.Transient, api.Secret}

// labelled is a program in which instructions stand behind those that make a value of each label, 1, 2 and 3, of arrays of their own.
func labelled(t *testing.T, ins ...ssa.Ins) ssa.Prog {
	t.Helper()
	p := ssa.Prog{Arrays: arrays(), Funcs: []ssa.Func{read(t, "; 1=0; 2=load 6 1; 3=get 7; ret 1")}}
	p.Arrays = append(p.Arrays, ssa.Array{Hold: ast.Open, Size: 1}, ssa.Array{Hold: ast.Closed})
	b := &p.Funcs[0].Blocks[0]
	b.Ins = append(b.Ins, ins...)
	return p
}

func TestBins(t *testing.T) {
	for o := word.Add; o.Known(); o++ {
		for a, la := range all {
			for b, lb := range all {
				p := labelled(t, ssa.Ins{Op: ssa.Bin, Bin: o, Dst: 9, Args: []int{1 + a, 1 + b}})
				for _, isCut := range []bool{false, true} {
					want := max(la, lb)
					if isCut {
						want = stays(want)
					}
					if l := labels(t, p, []map[int]bool{{9: isCut}}); l.Vals[0][1] != api.Public || l.Vals[0][2] != api.Transient || l.Vals[0][3] != api.Secret || l.Vals[0][9] != want {
						t.Error(o, la, lb, isCut, l.Vals)
					}
				}
			}
		}
	}
}

// Each word and each list, without a Set or Store, with one of it, with one of another one, of a public value or a secret one.
func TestGetsAndLoads(t *testing.T) {
	sets := map[string][]ssa.Ins{"nothing": {}}
	for a := range arrays() {
		for v := 1; v <= 3; v++ {
			set := ssa.Ins{Op: ssa.Set, Arr: a, Args: []int{v}}
			if a >= ownList {
				set = ssa.Ins{Op: ssa.Store, Arr: a, Args: []int{3, v}}
			}
			sets[fmt.Sprintf("%d becomes %d", a, v)] = []ssa.Ins{set}
		}
	}
	for what, set := range sets {
		for a := range arrays() {
			array, may := api.Public, api.Public
			if a == closed || a == closedList {
				array = api.Secret
			}
			for _, s := range set {
				if s.Op == ssa.Store || s.Arr == a {
					may = api.Transient
				}
				if v := s.Args[len(s.Args)-1]; s.Arr == a && v == 3 {
					array = api.Secret
				}
			}
			takes := []ssa.Ins{{Op: ssa.Get, Dst: 9, Arr: a}}
			if a >= ownList {
				may = api.Transient
				takes = nil
				for index := 1; index <= 3; index++ {
					takes = append(takes, ssa.Ins{Op: ssa.Load, Dst: 9, Arr: a, Args: []int{index}})
				}
			}
			for k, take := range takes {
				l := labels(t, labelled(t, append([]ssa.Ins{take}, set...)...), nil)
				if want := max(array, may, all[k]); l.Vals[0][9] != want || l.Arrays[a] != array {
					t.Error(what, "the array", a, "by", all[k], "is", l.Vals[0][9], l.Arrays[a], "not", want, array)
				}
				l = labels(t, labelled(t, append([]ssa.Ins{take}, set...)...), cuts([]int{9}))
				if want := stays(max(array, all[k])); l.Vals[0][9] != want || l.Arrays[a] != array {
					t.Error(what, "the array", a, "by", all[k], "cut, is", l.Vals[0][9], l.Arrays[a], "not", want, array)
				}
			}
		}
	}
}

func TestWrites(t *testing.T) {
	for _, c := range []struct {
		what  string
		texts []string
		want  []int
	}{
		{"nothing", one("; 1=5; 2=get 0; ret 1"), []int{0, 0, 0, 0, 0, 0}},
		{"a Set", one("; 1=5; set 0 1; ret 1"), []int{1, 0, 0, 0, 0, 0}},
		{"another Set", one("; 1=5; set 2 1; ret 1"), []int{0, 0, 1, 0, 0, 0}},
		{"two Sets of one, one of another", one("; 1=5; set 2 1; set 2 1; set 1 1; ret 1"), []int{0, 1, 1, 0, 0, 0}},
		{"a Store", one("; 1=0; store 3 1 1; ret 1"), []int{1, 1, 1, 1, 1, 1}},
		{"a Store of another one", one("; 1=0; store 5 1 1; ret 1"), []int{1, 1, 1, 1, 1, 1}},
		{"a Set and a Store", one("; 1=0; set 1 1; store 4 1 1; set 2 1; ret 1"), []int{1, 1, 1, 1, 1, 1}},
		{"a Set in another function", one("; 1=5; ret 1", "; 1=5; ret 1", "; 1=5; set 1 1; ret 1"), []int{0, 1, 0, 0, 0, 0}},
		{"a Set in another block", one("; 1=5; to 1 | ; to 2 | ; set 1 1; ret 1"), []int{0, 1, 0, 0, 0, 0}},
		{"a Set where nothing comes", one("; 1=5; ret 1 | ; set 1 1; ret 1"), []int{0, 1, 0, 0, 0, 0}},
		{"a Store in another function", one("; 1=5; ret 1", "; 1=0; ret 1 | ; store 3 1 1; ret 1"), []int{1, 1, 1, 1, 1, 1}},
	} {
		p := program(t, c.texts...)
		got := taint.Writes(p)
		if len(got) != len(c.want) {
			t.Fatal(c.what, got)
		}
		for a, w := range got {
			if w != (c.want[a] == 1) {
				t.Error(c.what, got)
			}
		}
	}
	if got := taint.Writes(ssa.Prog{}); len(got) != 0 {
		t.Error(got)
	}
}

// Writes is asked of programs that aren't right, too.
func TestWritesOfWhatIsNotRight(t *testing.T) {
	for _, c := range []struct {
		ins  []ssa.Ins
		want string
	}{
		{[]ssa.Ins{{Op: ssa.Set, Arr: -1}, {Op: ssa.Set, Arr: 2}, {Op: ssa.Set, Arr: 1 << 40}, {Op: ssa.Set, Arr: -1 << 63}}, "[false false]"},
		{[]ssa.Ins{{Op: ssa.Set, Arr: 1}}, "[false true]"},
		{[]ssa.Ins{{Op: ssa.Get, Arr: 1}, {Op: ssa.Load, Arr: 1}, {Op: ssa.Call + 1, Arr: 1}, {Arr: 1}}, "[false false]"},
		{[]ssa.Ins{{Op: ssa.Store, Arr: 7}}, "[true true]"},
		{[]ssa.Ins{{Op: ssa.Store, Arr: -7, Dst: 5}}, "[true true]"},
	} {
		p := ssa.Prog{Arrays: make([]ssa.Array, 2), Funcs: []ssa.Func{{}, {Blocks: []ssa.Block{{}, {Ins: c.ins}}}}, Main: 9}
		if got := fmt.Sprint(taint.Writes(p)); got != c.want {
			t.Error(c.ins, got)
		}
	}
}

func TestMay(t *testing.T) {
	writes := []bool{false, true, false, true}
	for o := ssa.Op(-2); o < 12; o++ {
		for _, arr := range []int{-1 << 63, -2, -1, 0, 1, 2, 3, 4, 5, 1<<63 - 1} {
			want := api.Public
			if o == ssa.Load || o == ssa.Get && (arr == 1 || arr == 3) {
				want = api.Transient
			}
			if got := taint.May(writes, ssa.Ins{Op: o, Arr: arr, Dst: 3, Args: []int{1}}); got != want {
				t.Error(o, arr, got)
			}
			if got := taint.May(nil, ssa.Ins{Op: o, Arr: arr}); (got == api.Transient) != (o == ssa.Load) || got == api.Secret {
				t.Error("no writes", o, arr, got)
			}
		}
	}
}
