package taint_test

import (
	"fmt"
	"maps"
	"slices"
	"strconv"
	"strings"
	"testing"

	"palings/api"
	"palings/ast"
	"palings/ssa"
	"palings/taint"
	"palings/word"
)

// A function is told as a text: its blocks, with | between them, of each its parameters, its instructions and its end, with ; between them:
//
//	3=-5, 4=add 1 3, 5=get 0, 6=load 3 3, 7=call 1 3 4, set 0 4, store 3 3 4
//	to 1 3 4, if 4 to 1 3 4 to 2, ret 4, zero

// The arrays of programs that are told so: three words, and three lists, an own, an open and a closed one each.
const (
	own = iota
	open
	closed
	ownList
	openList
	closedList
)

func arrays() []ssa.Array {
	return []ssa.Array{
		{Name: "v"}, {Name: "p", Hold: ast.Open}, {Name: "s", Hold: ast.Closed},
		{Name: "h", Size: 4}, {Name: "q", Hold: ast.Open, Size: 4}, {Name: "k", Hold: ast.Closed, Size: 4},
	}
}

func numbers(t *testing.T, words []string) []int {
	t.Helper()
	var out []int
	for _, w := range words {
		n, err := strconv.Atoi(w)
		if err != nil {
			t.Fatal(err, words)
		}
		out = append(out, n)
	}
	return out
}

func read(t *testing.T, text string) ssa.Func {
	t.Helper()
	f := ssa.Func{}
	for _, part := range strings.Split(text, "|") {
		parts := strings.Split(part, ";")
		b := ssa.Block{Params: numbers(t, strings.Fields(parts[0]))}
		for _, p := range parts[1 : len(parts)-1] {
			b.Ins = append(b.Ins, readInstruction(t, strings.TrimSpace(p)))
		}
		b.End = readEnd(t, strings.Fields(parts[len(parts)-1]))
		f.Blocks = append(f.Blocks, b)
	}
	return f
}

func readInstruction(t *testing.T, text string) ssa.Ins {
	t.Helper()
	dst, what, makes := strings.Cut(text, "=")
	if !makes {
		dst, what = "0", text
	}
	i := ssa.Ins{Dst: numbers(t, []string{dst})[0]}
	if n, err := strconv.ParseInt(what, 10, 64); err == nil {
		i.Op, i.Num = ssa.Const, n
		return i
	}
	words := strings.Fields(what)
	args := numbers(t, words[1:])
	ops := map[string]ssa.Op{"get": ssa.Get, "set": ssa.Set, "load": ssa.Load, "store": ssa.Store, "call": ssa.Call}
	switch i.Op = ops[words[0]]; i.Op {
	case 0:
		i.Op, i.Args = ssa.Bin, args
		for o := word.Add; o.Known(); o++ {
			if o.String() == words[0] {
				i.Bin = o
			}
		}
	case ssa.Call:
		i.Fn, i.Args = args[0], args[1:]
	default:
		i.Arr, i.Args = args[0], args[1:]
	}
	return i
}

func readEnd(t *testing.T, words []string) ssa.End {
	t.Helper()
	var ways []ssa.Edge
	for _, w := range strings.Split(strings.Join(words, " "), "to ")[1:] {
		n := numbers(t, strings.Fields(w))
		ways = append(ways, ssa.Edge{To: n[0], Args: n[1:]})
	}
	switch words[0] {
	case "to":
		return ssa.End{Kind: ssa.Jump, Ways: ways}
	case "if":
		return ssa.End{Kind: ssa.Branch, Val: numbers(t, words[1:2])[0], Ways: ways}
	case "ret":
		return ssa.End{Kind: ssa.Return, Val: numbers(t, words[1:])[0]}
	}
	return ssa.End{Kind: ssa.Trap, Trap: api.Zero}
}

// program is one of these functions, the first of which is Main.
func program(t *testing.T, texts ...string) ssa.Prog {
	t.Helper()
	p := ssa.Prog{Arrays: arrays()}
	for _, text := range texts {
		p.Funcs = append(p.Funcs, read(t, text))
	}
	if e := p.Check(); e != api.OK {
		t.Fatalf("error %d of %q", e, texts)
	}
	return p
}

// cuts is which values of each function are cut.
func cuts(functions ...[]int) []map[int]bool {
	var out []map[int]bool
	for _, values := range functions {
		m := map[int]bool{}
		for _, v := range values {
			m[v] = true
		}
		out = append(out, m)
	}
	return out
}

// labels is what Of tells of a program that is right, if it has turned nothing, tells of each function, and has labels of values alone.
func labels(t *testing.T, p ssa.Prog, cut []map[int]bool) taint.Labels {
	t.Helper()
	before := fmt.Sprintf("%#v %#v", p, cut)
	l, e := taint.Of(p, cut)
	if e != api.OK {
		t.Fatalf("error %d of %+v", e, p)
	}
	if after := fmt.Sprintf("%#v %#v", p, cut); after != before {
		t.Fatalf("it was changed: %s, %s", before, after)
	}
	if len(l.Vals) != len(p.Funcs) || len(l.Rets) != len(p.Funcs) || len(l.Cut) != len(p.Funcs) || len(l.Arrays) != len(p.Arrays) {
		t.Fatalf("%+v of %+v", l, p)
	}
	for fn, f := range p.Funcs {
		made := map[int]bool{}
		for _, b := range f.Blocks {
			for _, v := range b.Params {
				made[v] = true
			}
			for _, i := range b.Ins {
				made[i.Dst] = i.Dst != 0
			}
		}
		for v := range l.Vals[fn] {
			if !made[v] {
				t.Errorf("function %d has no value %d: %+v", fn, v, p)
			}
		}
		want := map[int]bool{}
		if fn < len(cut) && cut[fn] != nil {
			want = cut[fn]
		}
		if !maps.Equal(l.Cut[fn], want) {
			t.Errorf("Cut is %v, not %v", l.Cut, cut)
		}
	}
	return l
}

var letter = map[api.Label]string{api.Public: "-", api.Transient: "t", api.Secret: "s"}

func row(list []api.Label) string {
	out := ""
	for _, l := range list {
		out += letter[l]
	}
	return out
}

// told is labels as a text: of each function its values that aren't Public (1t 2s), with | between; the arrays' labels (--s--s), and the functions'.
func told(l taint.Labels) string {
	var functions []string
	for _, vals := range l.Vals {
		var out []string
		for _, v := range slices.Sorted(maps.Keys(vals)) {
			if vals[v] != api.Public {
				out = append(out, fmt.Sprint(v, letter[vals[v]]))
			}
		}
		functions = append(functions, strings.ReplaceAll(strings.Join(out, ","), " ", ""))
	}
	return strings.Join(functions, "|") + " " + row(l.Arrays) + " " + row(l.Rets)
}

// known is sinks as a text: of each function, block, place and value.
func known(sinks []taint.Sink) string {
	var out []string
	for _, s := range sinks {
		out = append(out, fmt.Sprintf("%d.%d.%d:%d%s", s.Fn, s.Block, s.At, s.Val, letter[s.Label]))
	}
	return strings.Join(out, " ")
}
