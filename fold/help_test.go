package fold_test

import (
	"fmt"
	"strconv"
	"strings"
	"testing"

	"palings/api"
	"palings/ast"
	"palings/fold"
	"palings/ssa"
	"palings/word"
)

// A function is told as a text: its blocks, with | between them, of each its parameters, its instructions and its end, with ; between them:
//
//	3=-5, 4=add 1 3, 5=get 0, 6=load 2 3, 7=call 1 3 4, set 0 4, store 2 3 4
//	to 1 3 4, if 4 to 1 3 4 to 2, ret 4, bounds, zero
//
// The functions that the tests call are 1 (of no parameter) and 2 (of two); the arrays are 0 and 1, words, and 2, a list of three.

func numbers(t *testing.T, words []string) []int {
	t.Helper()
	var out []int
	for _, w := range words {
		n, err := strconv.Atoi(w)
		if err != nil {
			t.Fatal(err, words)
		}
		out = append(out, n)
	}
	return out
}

func read(t *testing.T, text string) ssa.Func {
	t.Helper()
	f := ssa.Func{Name: "main"}
	for _, part := range strings.Split(text, "|") {
		parts := strings.Split(part, ";")
		b := ssa.Block{Params: numbers(t, strings.Fields(parts[0]))}
		for _, p := range parts[1 : len(parts)-1] {
			b.Ins = append(b.Ins, readInstruction(t, strings.TrimSpace(p)))
		}
		b.End = readEnd(t, strings.Fields(parts[len(parts)-1]))
		f.Blocks = append(f.Blocks, b)
	}
	return f
}

func readInstruction(t *testing.T, text string) ssa.Ins {
	t.Helper()
	dst, what, makes := strings.Cut(text, "=")
	if !makes {
		dst, what = "0", text
	}
	i := ssa.Ins{Dst: numbers(t, []string{dst})[0]}
	if n, err := strconv.ParseInt(what, 10, 64); err == nil {
		i.Op, i.Num = ssa.Const, n
		return i
	}
	words := strings.Fields(what)
	args := numbers(t, words[1:])
	ops := map[string]ssa.Op{"get": ssa.Get, "set": ssa.Set, "load": ssa.Load, "store": ssa.Store, "call": ssa.Call}
	switch i.Op = ops[words[0]]; i.Op {
	case 0:
		i.Op, i.Args = ssa.Bin, args
		for o := word.Add; o.Known(); o++ {
			if o.String() == words[0] {
				i.Bin = o
			}
		}
	case ssa.Call:
		i.Fn, i.Args = args[0], args[1:]
	default:
		i.Arr, i.Args = args[0], args[1:]
	}
	return i
}

func readEnd(t *testing.T, words []string) ssa.End {
	t.Helper()
	var ways []ssa.Edge
	for _, w := range strings.Split(strings.Join(words, " "), "to ")[1:] {
		n := numbers(t, strings.Fields(w))
		ways = append(ways, ssa.Edge{To: n[0], Args: n[1:]})
	}
	switch words[0] {
	case "to":
		return ssa.End{Kind: ssa.Jump, Ways: ways}
	case "if":
		return ssa.End{Kind: ssa.Branch, Val: numbers(t, words[1:2])[0], Ways: ways}
	case "ret":
		return ssa.End{Kind: ssa.Return, Val: numbers(t, words[1:])[0]}
	case "zero":
		return ssa.End{Kind: ssa.Trap, Trap: api.Zero}
	}
	return ssa.End{Kind: ssa.Trap, Trap: api.Bounds}
}

func several(first string, list ...int) string {
	for _, n := range list {
		first += " " + strconv.Itoa(n)
	}
	return strings.TrimSpace(first)
}

func written(f ssa.Func) string {
	var blocks []string
	for _, b := range f.Blocks {
		parts := []string{several("", b.Params...)}
		for _, i := range b.Ins {
			parts = append(parts, writtenInstruction(i))
		}
		end := map[ssa.Ends]string{ssa.Return: several("ret", b.End.Val), ssa.Branch: several("if", b.End.Val)}[b.End.Kind]
		for _, w := range b.End.Ways {
			end += " " + several("to", append([]int{w.To}, w.Args...)...)
		}
		if b.End.Kind == ssa.Trap {
			end = []string{api.Bounds: "bounds", api.Zero: "zero"}[b.End.Trap]
		}
		blocks = append(blocks, strings.Join(append(parts, strings.TrimSpace(end)), "; "))
	}
	return strings.Join(blocks, " | ")
}

func writtenInstruction(i ssa.Ins) string {
	switch i.Op {
	case ssa.Const:
		return fmt.Sprintf("%d=%d", i.Dst, i.Num)
	case ssa.Bin:
		return several(fmt.Sprintf("%d=%s", i.Dst, i.Bin), i.Args...)
	case ssa.Call:
		return several(fmt.Sprintf("%d=call", i.Dst), append([]int{i.Fn}, i.Args...)...)
	case ssa.Get, ssa.Load:
		return several(fmt.Sprintf("%d=%s", i.Dst, map[ssa.Op]string{ssa.Get: "get", ssa.Load: "load"}[i.Op]), append([]int{i.Arr}, i.Args...)...)
	}
	return several(map[ssa.Op]string{ssa.Set: "set", ssa.Store: "store"}[i.Op], append([]int{i.Arr}, i.Args...)...)
}

// around is a program of that main, and of the functions and arrays that texts name.
func around(t *testing.T, main ssa.Func) ssa.Prog {
	t.Helper()
	one, two := read(t, "; 1=get 1; set 0 1; ret 1"), read(t, "2 1; 3=sub 1 2; ret 3")
	one.Name, two.Name = "one", "two"
	return ssa.Prog{
		Arrays: []ssa.Array{{Name: "w", Hold: ast.Open}, {Name: "v", Hold: ast.Closed}, {Name: "h", Size: 3}},
		Funcs:  []ssa.Func{main, one, two},
	}
}

// folded is a program that is right, folded, if all that may be said of each fold holds.
func folded(t *testing.T, p ssa.Prog) ssa.Prog {
	t.Helper()
	if e := p.Check(); e != api.OK {
		t.Fatalf("wrong at first: %+v", p)
	}
	before := fmt.Sprintf("%#v", p)
	q, e := fold.Program(p)
	if e != api.OK || q.Check() != api.OK {
		t.Fatalf("error %d of %+v, and %d of %+v", e, p, q.Check(), q)
	}
	if fmt.Sprintf("%#v", p) != before {
		t.Fatalf("it was changed: %s, %#v", before, p)
	}
	if fmt.Sprint(p.Arrays) != fmt.Sprint(q.Arrays) || len(p.Funcs) != len(q.Funcs) || p.Main != q.Main {
		t.Fatalf("%+v became %+v", p, q)
	}
	for i, f := range q.Funcs {
		if f.Name != p.Funcs[i].Name || fmt.Sprint(f.Params()) != fmt.Sprint(p.Funcs[i].Params()) {
			t.Fatalf("%+v became %+v", p.Funcs[i], f)
		}
		if one := fold.Func(p.Funcs[i]); fmt.Sprint(one) != fmt.Sprint(f) {
			t.Fatalf("Func of %+v tells %+v, not %+v", p.Funcs[i], one, f)
		}
		if what := undone(f); what != "" {
			t.Fatalf("%s is left to do in %s\nof %s", what, written(f), written(p.Funcs[i]))
		}
	}
	return q
}
