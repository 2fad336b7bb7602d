package build

import (
	"fmt"
	"testing"

	"palings/api"
	"palings/ast"
	"palings/check"
	"palings/parse"
)

func parsed(t *testing.T, s string) ast.Prog {
	t.Helper()
	p, fault := parse.Program(s)
	if fault.E != api.OK {
		t.Fatal(s, fault)
	}
	return p
}

// What is let within a block is nothing behind it, so that nests with a name at each step don't become many lists of many.
func TestWhatLoopsTurn(t *testing.T) {
	for _, c := range []struct {
		body string
		want string
	}{
		{"while true { }", "[]"},
		{"while true { x = 1; z = 2; y = 3; x = 4; }", "[x y z]"},
		{"while true { let y = 1; y = 2; x = y; }", "[x]"},
		{"while true { if true { let y = 1; y = 2; } else { let z = 1; z = y; x = 3; } }", "[x]"},
		{"while true { while true { let y = 1; y = 2; x = 3; } let z = 1; z = 2; }", "[x]"},
		{"while true { if true { x = 1; } else { y = 2; } }", "[x y]"},
		{"while true { if true { x = 1; return 1; } else { y = 2; } }", "[y]"},
		{"while true { if true { x = 1; } else { y = 2; return 1; } z = 1; }", "[x z]"},
		{"while true { if true { x = 1; } z = 1; return 1; }", "[]"},
		{"while true { z = 1; if true { x = 1; return 1; } else { y = 1; return 2; } x = 5; }", "[]"},
		{"while true { while true { x = 1; return 1; } y = 2; }", "[y]"},
		{"while true { h[0] = 1; f(); }", "[]"},
	} {
		turns, _, comes := turnsOf(parsed(t, "func main() { "+c.body+" }").Funcs[0].Body)
		if got := fmt.Sprint(turns[0].names); got != c.want || !comes {
			t.Error(c.body, got, "want", c.want, comes)
		}
	}
}

// All names are again what they were, and the past is as short as it was.
func TestBack(t *testing.T) {
	n := names{vals: map[string]int{}}
	n.turn("x", 1)
	n.turn("y", 2)
	then := n.now()
	n.turn("x", 3)
	n.turn("z", 4)
	n.turn("x", 5)
	n.turn("w", 6)
	n.forget([]ast.Stmt{{Does: ast.Let, Name: "w"}, {Does: ast.Set, Name: "x"}})
	if got := fmt.Sprint(n.known([]string{"x", "w", "y", "v", "z"})); got != "[x y z]" {
		t.Error(got)
	}
	if got := fmt.Sprint(n.back(then)); got != "map[x:5 z:4]" {
		t.Error(got)
	}
	if got := fmt.Sprint(n.vals); got != "map[x:1 y:2]" || n.now() != then {
		t.Error(got, n.now())
	}
}

// Behind a function's blocks no name is known but the Params and what is let in its outermost one.
func TestNamesAreForgotten(t *testing.T) {
	p := parsed(t, "func main() { let x = 1; if x == 1 { let y = 2; } else { let z = 3; return z; } while x < 3 { let w = x; x = w + 1; } }")
	info, _ := check.Program(p)
	m := &maker{info: info, names: names{vals: map[string]int{}}}
	m.begin()
	turns, _, _ := turnsOf(p.Funcs[0].Body)
	for i, s := range p.Funcs[0].Body {
		m.stmt(s, turns[i])
		if got := len(m.vals); got != 1 {
			t.Error(i, m.vals)
		}
	}
}
