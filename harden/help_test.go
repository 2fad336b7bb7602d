package harden_test

import (
	"fmt"
	"slices"
	"strconv"
	"strings"
	"testing"

	"palings/api"
	"palings/ast"
	"palings/cut"
	"palings/harden"
	"palings/ssa"
	"palings/word"
)

// A function is told as a text: its blocks, with | between them, of each its parameters, its instructions and its end, with ; between them:
//
//	3=-5, 4=add 1 3, 5=get 0, 6=load 3 3, 7=call 1 3 4, set 0 4, store 3 3 4
//	to 1 3 4, if 4 to 1 3 4 to 2, ret 4, zero

// The arrays of programs that are told so: three words, and three lists, an own, an open and a closed one each.
const (
	own = iota
	open
	closed
	ownList
	openList
	closedList
)

func arrays() []ssa.Array {
	return []ssa.Array{
		{Name: "v"}, {Name: "p", Hold: ast.Open}, {Name: "s", Hold: ast.Closed},
		{Name: "h", Size: 4}, {Name: "q", Hold: ast.Open, Size: 4}, {Name: "k", Hold: ast.Closed, Size: 4},
	}
}

func numbers(t *testing.T, words []string) []int {
	t.Helper()
	var out []int
	for _, w := range words {
		n, err := strconv.Atoi(w)
		if err != nil {
			t.Fatal(err, words)
		}
		out = append(out, n)
	}
	return out
}

func read(t *testing.T, text string) ssa.Func {
	t.Helper()
	f := ssa.Func{}
	for _, part := range strings.Split(text, "|") {
		parts := strings.Split(part, ";")
		b := ssa.Block{Params: numbers(t, strings.Fields(parts[0]))}
		for _, p := range parts[1 : len(parts)-1] {
			b.Ins = append(b.Ins, readInstruction(t, strings.TrimSpace(p)))
		}
		b.End = readEnd(t, strings.Fields(parts[len(parts)-1]))
		f.Blocks = append(f.Blocks, b)
	}
	return f
}

func readInstruction(t *testing.T, text string) ssa.Ins {
	t.Helper()
	dst, what, makes := strings.Cut(text, "=")
	if !makes {
		dst, what = "0", text
	}
	i := ssa.Ins{Dst: numbers(t, []string{dst})[0]}
	if n, err := strconv.ParseInt(what, 10, 64); err == nil {
		i.Op, i.Num = ssa.Const, n
		return i
	}
	words := strings.Fields(what)
	args := numbers(t, words[1:])
	ops := map[string]ssa.Op{"get": ssa.Get, "set": ssa.Set, "load": ssa.Load, "store": ssa.Store, "call": ssa.Call}
	switch i.Op = ops[words[0]]; i.Op {
	case 0:
		i.Op, i.Args = ssa.Bin, args
		for o := word.Add; o.Known(); o++ {
			if o.String() == words[0] {
				i.Bin = o
			}
		}
	case ssa.Call:
		i.Fn, i.Args = args[0], args[1:]
	default:
		i.Arr, i.Args = args[0], args[1:]
	}
	return i
}

func readEnd(t *testing.T, words []string) ssa.End {
	t.Helper()
	var ways []ssa.Edge
	for _, w := range strings.Split(strings.Join(words, " "), "to ")[1:] {
		n := numbers(t, strings.Fields(w))
		ways = append(ways, ssa.Edge{To: n[0], Args: n[1:]})
	}
	switch words[0] {
	case "to":
		return ssa.End{Kind: ssa.Jump, Ways: ways}
	case "if":
		return ssa.End{Kind: ssa.Branch, Val: numbers(t, words[1:2])[0], Ways: ways}
	case "ret":
		return ssa.End{Kind: ssa.Return, Val: numbers(t, words[1:])[0]}
	}
	return ssa.End{Kind: ssa.Trap, Trap: api.Zero}
}

// program is one of these functions, the first of which is Main.
func program(t *testing.T, texts ...string) ssa.Prog {
	t.Helper()
	p := ssa.Prog{Arrays: arrays()}
	for _, text := range texts {
		p.Funcs = append(p.Funcs, read(t, text))
	}
	if e := p.Check(); e != api.OK {
		t.Fatalf("error %d of %q", e, texts)
	}
	return p
}

func rising(list []int) bool {
	return slices.IsSorted(list) && len(slices.Compact(slices.Clone(list))) == len(list)
}

// net is what Net tells of a function of a program that is right, if it has turned nothing, and tells each thing once, in order.
func net(t *testing.T, p ssa.Prog, fn int) (cut.Net, []int) {
	t.Helper()
	before := fmt.Sprintf("%#v", p)
	n, values, e := harden.Net(p, fn)
	if e != api.OK {
		t.Fatalf("error %d of %+v", e, p)
	}
	if fmt.Sprintf("%#v", p) != before {
		t.Fatal("it was changed:", before)
	}
	if len(values) != len(n.Weights) || !rising(n.From) || !rising(n.To) || len(values) <= cut.MaxNodes && !n.Right() {
		t.Errorf("it isn't right: %+v %v", n, values)
	}
	met := map[[2]int]bool{}
	for _, w := range n.Ways {
		if met[w] {
			t.Errorf("twice a way: %+v", n)
		}
		met[w] = true
	}
	return n, values
}

// told is a net as a text, of values rather than of places: which ones, each with its weight, but 1; the ways, rising; From; To.
func told(n cut.Net, values []int) string {
	var places, ways []string
	for k, v := range values {
		places = append(places, strings.TrimSuffix(fmt.Sprintf("%d*%d", v, n.Weights[k]), "*1"))
	}
	list := slices.Clone(n.Ways)
	slices.SortFunc(list, func(a, b [2]int) int { return slices.Compare(a[:], b[:]) })
	for _, w := range list {
		ways = append(ways, fmt.Sprintf("%d>%d", values[w[0]], values[w[1]]))
	}
	row := func(list []int) string {
		var out []string
		for _, place := range list {
			out = append(out, strconv.Itoa(values[place]))
		}
		return strings.Join(out, " ")
	}
	return strings.Join([]string{strings.Join(places, " "), strings.Join(ways, " "), row(n.From), row(n.To)}, "; ")
}

// plan is what Of tells of a program that is right, if it has turned nothing, and has a map for each function.
func plan(t *testing.T, p ssa.Prog) harden.Plan {
	t.Helper()
	before := fmt.Sprintf("%#v", p)
	h, e := harden.Of(p)
	if e != api.OK {
		t.Fatalf("error %d of %+v", e, p)
	}
	if fmt.Sprintf("%#v", p) != before {
		t.Fatal("it was changed:", before)
	}
	if len(h.Cut) != len(p.Funcs) {
		t.Errorf("%d maps of %d functions", len(h.Cut), len(p.Funcs))
	}
	return h
}

// fences is a plan as a text: of each function the values that are cut, with | between; its weight; its guards, of each function, block and place.
func fences(h harden.Plan) string {
	var functions, guards []string
	for fn := range h.Cut {
		functions = append(functions, strings.Trim(fmt.Sprint(h.Values(fn)), "[]"))
	}
	for _, g := range h.Guards {
		guards = append(guards, fmt.Sprintf("%d.%d.%d", g.Fn, g.Block, g.At))
	}
	return strings.TrimSpace(strings.Join(functions, "|") + " =" + fmt.Sprint(h.Weight) + " " + strings.Join(guards, " "))
}
