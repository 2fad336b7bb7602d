package taint_test

import (
	"testing"

	"palings/api"
	"palings/taint"
)

// still is the arrays' labels where nothing secret comes to any.
const still = " --s--s "

func TestExample(t *testing.T) {
	p := program(t, "; 1=get 2; 2=add 1 1; ret 2")
	l := labels(t, p, nil)
	if got := told(l); got != "1s,2s"+still+"s" {
		t.Error(got)
	}
	if s := taint.Sinks(p, l); len(s) != 0 {
		t.Error(s)
	}
}

type telling struct {
	what  string
	texts []string
	want  string
}

func one(texts ...string) []string { return texts }

func (c telling) try(t *testing.T) {
	t.Helper()
	if got := told(labels(t, program(t, c.texts...), nil)); got != c.want {
		t.Errorf("%s: %s, not %s: %q", c.what, got, c.want, c.texts)
	}
}

func TestArrays(t *testing.T) {
	for _, c := range []telling{
		{"nothing", one("; 1=5; ret 1"), still + "-"},
		{"words that nobody turns", one("; 1=get 0; 2=get 1; 3=get 2; ret 1"), "3s" + still + "-"},
		{"lists that nobody turns", one("; 1=0; 2=load 3 1; 3=load 4 1; 4=load 5 1; ret 1"), "2t,3t,4s" + still + "-"},
		{"a word that is turned", one("; 1=5; set 0 1; 2=get 0; 3=get 1; ret 2"), "2t" + still + "-"},
		{"an open one that is turned", one("; 1=5; set 1 1; 2=get 0; 3=get 1; ret 2"), "3t" + still + "-"},
		{"one that is turned behind", one("; 2=get 0; 1=5; set 0 1; ret 2"), "2t" + still + "-"},
		{"one that is turned in another function", one("; 2=get 0; ret 2", "; 1=5; set 0 1; ret 1"), "2t|" + still + "--"},
		{"one that is turned where nothing comes", one("; 2=get 0; ret 2 | ; 1=5; set 0 1; ret 1"), "2t" + still + "-"},
		{"a closed one that is turned to what is public", one("; 1=5; set 2 1; 2=get 2; ret 2"), "2s" + still + "s"},
		{"a list that is turned turns all words", one("; 1=0; store 3 1 1; 2=get 0; 3=get 1; 4=get 2; ret 2"), "2t,3t,4s" + still + "-"},
		{"one that is turned where nothing comes, too", one("; 2=get 0; ret 2 | ; 1=0; store 3 1 1; ret 1"), "2t" + still + "-"},
		{"a word that is secret", one("; 1=get 2; set 0 1; 2=get 0; ret 2"), "1s,2s s-s--s s"},
		{"an open word that is secret", one("; 1=get 2; set 1 1; 2=get 1; ret 2"), "1s,2s -ss--s s"},
		{"a list that is secret", one("; 1=get 2; 2=0; store 3 2 1; 3=load 3 2; 4=load 4 2; ret 3"), "1s,3s,4t --ss-s s"},
		{"an open list that is secret", one("; 1=get 2; 2=0; store 4 2 1; 3=load 3 2; 4=load 4 2; ret 4"), "1s,3t,4s --s-ss s"},
		{"an index that is secret isn't laid into the list", one("; 1=get 2; 2=0; store 3 1 2; 3=load 3 2; ret 3"), "1s,3t" + still + "-"},
		{"what is laid into words and lists stays public", one("; 1=0; 2=load 4 1; set 0 2; store 3 2 2; 3=get 0; 4=load 3 1; ret 2"), "2t,3t,4t" + still + "-"},
		{"it is secret ahead of that, too", one("; 1=get 0; 2=get 2; set 0 2; ret 1"), "1s,2s s-s--s s"},
		{"it is secret in another function", one("; 1=get 0; ret 1", "; 2=get 2; set 0 2; ret 2"), "1s|2s s-s--s ss"},
		{"it isn't, if that is where nothing comes", one("; 1=get 0; ret 1 | ; 2=get 2; set 0 2; ret 2"), "1t" + still + "-"},
		{"from word to word", one("; 1=get 1; set 0 1; 2=get 2; set 1 2; 3=0; 4=get 0; store 3 3 4; ret 3"), "1s,2s,4s ssss-s -"},
	} {
		c.try(t)
	}
}

func TestValues(t *testing.T) {
	for _, c := range []telling{
		{"a parameter on two ways", one("; 1=get 1; 2=get 2; if 1 to 1 1 to 1 2 | 3; ret 3"), "2s,3s" + still + "s"},
		{"on the other way", one("; 1=get 1; 2=get 2; if 1 to 1 2 to 1 1 | 3; ret 3"), "2s,3s" + still + "s"},
		{"on both ways public", one("; 1=get 1; 2=get 2; if 1 to 1 1 to 1 1 | 3; ret 3"), "2s" + still + "-"},
		{"what is the second isn't the first", one("; 1=get 1; 2=get 2; to 1 1 2 | 3 4; ret 3"), "2s,4s" + still + "-"},
		{"transient on a way", one("; 1=0; 2=load 4 1; if 1 to 1 1 to 1 2 | 3; ret 3"), "2t,3t" + still + "-"},
		{"transient and secret", one("; 1=0; 2=load 4 1; 3=get 2; if 1 to 1 3 to 1 2 | 4; ret 4"), "2t,3s,4s" + still + "s"},
		{"on ways from several blocks", one("; 1=get 1; 2=get 2; if 1 to 1 to 2 | ; to 3 1 | ; to 3 2 | 3; ret 3"), "2s,3s" + still + "s"},
		{"a branch's value isn't what is on the way", one("; 1=get 2; 2=0; 3=1; if 1 to 1 2 to 1 3 | 4; ret 4"), "1s" + still + "-"},
		{"a way from where nothing comes", one("; 1=get 1; to 1 1 | 2; ret 2 | ; 3=get 2; to 1 3"), still + "-"},
		{"values where nothing comes", one("; 1=get 1; ret 1 | 2; 3=get 2; 4=load 5 3; 5=add 3 4; if 5 to 1 5 to 1 3"), still + "-"},
		{"what nothing comes to returns", one("; 1=get 1; ret 1 | ; 3=get 2; ret 3"), still + "-"},
		{"in a loop", one("; 1=get 1; 2=get 2; to 1 1 1 1 | 3 4 5; if 1 to 2 to 3 | ; to 1 2 3 4 | ; ret 5"), "2s,3s,4s,5s" + still + "s"},
		{"in a loop, itself", one("; 1=get 1; 2=get 2; to 1 1 2 | 3 4; if 1 to 2 to 3 | ; to 1 3 4 | ; ret 3"), "2s,4s" + still + "-"},
		{"in a loop, they change places", one("; 1=get 1; 2=get 2; to 1 1 2 | 3 4; if 1 to 2 to 3 | ; to 1 4 3 | ; ret 3"), "2s,3s,4s" + still + "s"},
		{"in a loop, reckoned", one("; 1=get 1; 2=load 4 1; to 1 1 | 3; 4=add 3 1; 5=add 4 2; if 1 to 1 5 to 2 | ; ret 4"), "2t,3t,4t,5t" + still + "-"},
		{"great numbers", one("; 9000000000000000000=get 2; 7=add 9000000000000000000 9000000000000000000; ret 7"), "7s,9000000000000000000s" + still + "s"},
	} {
		c.try(t)
	}
}

func TestCalls(t *testing.T) {
	for _, c := range []telling{
		{"what is handed on is secret", one("; 1=get 2; 2=call 1 1; ret 2", "1; ret 1"), "1s,2s|1s" + still + "ss"},
		{"what is called twice", one("; 1=get 2; 2=0; 3=call 1 1; 4=call 1 2; ret 4", "1; ret 1"), "1s,3s,4s|1s" + still + "ss"},
		{"one of two", one("; 1=get 2; 2=0; 3=call 1 2 1; ret 3", "1 2; ret 1"), "1s|2s" + still + "--"},
		{"the other one of two", one("; 1=get 2; 2=0; 3=call 1 1 2; ret 3", "1 2; ret 1"), "1s,3s|1s" + still + "ss"},
		{"several calls", one("; 1=get 2; 2=0; 3=call 1 2 1; 4=call 1 2 2; ret 3", "1 2; 3=call 2 2 1; ret 3", "8 9; ret 9"), "1s|2s|8s" + still + "---"},
		{"what comes from a call is secret", one("; 1=call 1; ret 1", "; 1=get 2; ret 1"), "1s|1s" + still + "ss"},
		{"nobody calls it", one("; 1=0; ret 1", "1; 2=get 2; 3=add 1 2; ret 1", "; 1=get 2; ret 1"), "|2s,3s|1s" + still + "--s"},
		{"a call where nothing comes", one("; 1=0; ret 1 | ; 2=get 2; 3=call 1 2; ret 3", "1; ret 1"), "|" + still + "--"},
		{"transient behind a call", one("; 1=0; 2=load 4 1; 3=call 1 2; ret 3", "1; ret 1"), "2t|" + still + "--"},
		{"transient behind a return", one("; 1=call 1; ret 1", "; 1=0; 2=load 4 1; ret 2"), "|2t" + still + "--"},
		{"a call with transient and secret", one("; 1=0; 2=load 4 1; 3=get 2; 4=call 1 2; 5=call 1 3; ret 4", "1; ret 1"), "2t,3s,4s,5s|1s" + still + "ss"},
		{"returns in several blocks", one("; 1=call 1; ret 1", "; 1=get 1; 2=get 2; if 1 to 1 to 2 | ; ret 1 | ; ret 2"), "1s|2s" + still + "ss"},
		{"one that doesn't return", one("; 1=call 1; ret 1", "; 1=get 2; zero"), "|1s" + still + "--"},
		{"one that calls itself", one("; 1=get 2; 2=0; 3=call 1 2 1; ret 3", "1 2; if 1 to 1 to 2 | ; 3=call 1 2 1; ret 3 | ; ret 1"), "1s,3s|1s,2s,3s" + still + "ss"},
		{"main calls itself", one("; 1=call 0; 2=get 2; 3=get 1; if 3 to 1 to 2 | ; ret 1 | ; ret 2"), "1s,2s" + still + "s"},
		{"round and round", one("; 1=0; 2=call 1 1; ret 2", "1; 2=call 2 1; ret 2", "1; 2=call 3 1; if 1 to 1 to 2 | ; ret 2 | ; ret 1", "1; 2=get 2; 3=call 1 2; ret 3"), "2s|1s,2s|1s,2s|1s,2s,3s" + still + "ssss"},
		{"round and round, and nothing is secret", one("; 1=0; 2=load 4 1; 3=call 1 2; ret 3", "1; 2=call 2 1; ret 2", "1; 2=call 1 1; if 1 to 1 to 2 | ; ret 2 | ; ret 1"), "2t||" + still + "---"},
		{"by a list", one("; 1=get 2; 2=call 1 1; 3=0; 4=load 3 3; ret 4", "1; 2=0; store 3 2 1; ret 2"), "1s,4s|1s --ss-s s-"},
	} {
		c.try(t)
	}
}

func TestCutValues(t *testing.T) {
	for _, c := range []struct {
		what  string
		texts []string
		cut   []map[int]bool
		want  string
	}{
		{"a Load", one("; 1=0; 2=load 4 1; 3=add 2 1; ret 3"), cuts([]int{2}), still + "-"},
		{"what is made of it", one("; 1=0; 2=load 4 1; 3=add 2 1; 4=add 3 1; ret 4"), cuts([]int{3}), "2t" + still + "-"},
		{"a Load by a Load, the first", one("; 1=0; 2=load 4 1; 3=load 4 2; ret 3"), cuts([]int{2}), "3t" + still + "-"},
		{"a Load by a Load, the second", one("; 1=0; 2=load 4 1; 3=load 4 2; ret 3"), cuts([]int{3}), "2t" + still + "-"},
		{"a Load by a Load, both", one("; 1=0; 2=load 4 1; 3=load 4 2; ret 3"), cuts([]int{3, 2}), still + "-"},
		{"a Get of what is turned", one("; 1=0; set 0 1; 2=get 0; 3=add 2 2; ret 3"), cuts([]int{2}), still + "-"},
		{"a Load of what is secret", one("; 1=0; 2=load 5 1; ret 2"), cuts([]int{2}), "2s" + still + "s"},
		{"a Load by what is secret", one("; 1=get 2; 2=load 4 1; ret 2"), cuts([]int{2, 1}), "1s,2s" + still + "s"},
		{"a Bin of what is secret", one("; 1=get 2; 2=0; 3=add 2 1; ret 3"), cuts([]int{3}), "1s,3s" + still + "s"},
		{"a parameter of a block", one("; 1=0; 2=load 4 1; to 1 2 | 3; 4=add 3 3; ret 4"), cuts([]int{3}), "2t" + still + "-"},
		{"in a loop", one("; 1=0; 2=load 4 1; to 1 1 | 3; 4=add 3 1; 5=add 4 2; if 1 to 1 5 to 2 | ; ret 4"), cuts([]int{5}), "2t" + still + "-"},
		{"at a loop's top", one("; 1=0; 2=load 4 1; to 1 1 | 3; 4=add 3 1; 5=add 4 2; if 1 to 1 5 to 2 | ; ret 4"), cuts([]int{3}), "2t,5t" + still + "-"},
		{"a parameter of a block, secret on a way", one("; 1=0; 2=load 4 1; 3=get 2; if 1 to 1 2 to 1 3 | 4; ret 4"), cuts([]int{4}), "2t,3s,4s" + still + "s"},
		{"a function's parameter", one("; 1=get 2; 2=call 1 1; ret 2", "1; ret 1"), cuts(nil, []int{1}), "1s,2s|1s" + still + "ss"},
		{"a call's value", one("; 1=get 2; 2=call 1 1; ret 2", "1; ret 1"), cuts([]int{2}), "1s,2s|1s" + still + "ss"},
		{"the same number in another function", one("; 1=0; 2=load 4 1; 3=call 1; ret 2", "; 1=0; 2=load 4 1; ret 2"), cuts([]int{2}), "|2t" + still + "--"},
		{"the same number, the other way round", one("; 1=0; 2=load 4 1; 3=call 1; ret 2", "; 1=0; 2=load 4 1; ret 2"), cuts(nil, []int{2}), "2t|" + still + "--"},
		{"nil", one("; 1=0; 2=load 4 1; ret 2"), nil, "2t" + still + "-"},
		{"no maps", one("; 1=0; 2=load 4 1; ret 2"), []map[int]bool{}, "2t" + still + "-"},
		{"a map that is nil", one("; 1=0; 2=load 4 1; 3=call 1; ret 2", "; 1=0; 2=load 4 1; ret 2"), []map[int]bool{nil, {2: true}}, "2t|" + still + "--"},
		{"maps that are nil", one("; 1=0; 2=load 4 1; ret 2"), []map[int]bool{nil}, "2t" + still + "-"},
		{"an empty map", one("; 1=0; 2=load 4 1; ret 2"), []map[int]bool{{}}, "2t" + still + "-"},
		{"cut says false", one("; 1=0; 2=load 4 1; 3=load 4 1; ret 2"), []map[int]bool{{2: false, 3: true}}, "2t" + still + "-"},
		{"what is no value", one("; 1=0; 2=load 4 1; ret 2"), []map[int]bool{{0: true, -1: true, 3: true, 1 << 62: true, 4: false}}, "2t" + still + "-"},
		{"a value where nothing comes", one("; 1=0; 2=load 4 1; ret 2 | ; 3=load 4 1; ret 3"), cuts([]int{3}), "2t" + still + "-"},
	} {
		if got := told(labels(t, program(t, c.texts...), c.cut)); got != c.want {
			t.Errorf("%s: %s, not %s: %q", c.what, got, c.want, c.texts)
		}
	}
}

// There is a map for each function, and so none for more.
func TestMoreCutsThanFunctions(t *testing.T) {
	p := program(t, "; 1=0; 2=load 4 1; ret 2")
	l, _ := taint.Of(p, cuts([]int{2}, []int{1}, []int{7}))
	if len(l.Cut) != 1 || len(l.Cut[0]) != 1 || !l.Cut[0][2] || told(l) != still+"-" {
		t.Error(l)
	}
}

// What is done to an answer turns neither what was handed in nor another answer, nor the other way round.
func TestLabelsAreNew(t *testing.T) {
	p := program(t, "; 1=0; 2=load 4 1; 3=get 2; 4=call 1; ret 3", "; 1=0; ret 1")
	cut := cuts([]int{2}, nil)
	a, b := labels(t, p, cut), labels(t, p, cut)
	want := told(b)
	for fn := range a.Vals {
		a.Vals[fn][1], a.Cut[fn][1] = api.Secret, true
	}
	for _, list := range [][]api.Label{a.Arrays, a.Rets} {
		clear(list)
		_ = append(list, api.Transient, api.Transient, api.Transient)
		if len(a.Arrays) != 6 || len(a.Rets) != 2 || a.Rets[1] != api.Public {
			t.Error("lists share something:", a)
		}
	}
	if len(cut[0]) != 1 || len(cut[1]) != 0 || told(b) != want || told(labels(t, p, cut)) != want {
		t.Error(cut, told(b), want)
	}
	cut[0][3] = true
	if b.Cut[0][3] {
		t.Error("what was handed in is kept")
	}
}
