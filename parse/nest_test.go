package parse_test

import (
	"strings"
	"testing"

	"palings/api"
)

// nested is a text with n parts of a kind within one another.
type nested struct {
	name              string
	head, open        string
	core, close, tail string
	fits              int // the most that aren't too deep
	at                int // where in open the part begins that is too deep, if all around it fits
}

// What stands in a function's braces is 1 deep, an expression of a statement there 2.
var deepest = []nested{
	{"brackets", "func f() { return ", "(", "1", ")", "; }", 198, 1},
	{"words of arrays", "func f() { return ", "a[", "1", "]", "; }", 198, 2},
	{"arguments", "func f() { return ", "g(", "1", ")", "; }", 198, 2},
	{"last arguments", "func f() { return ", "g(1, ", "1", ")", "; }", 198, 2},
	{"nots", "func f() { return ", "!", "a", "", "; }", 198, 0},
	{"signs", "func f() { return ", "-", "a", "", "; }", 198, 0},
	{"brackets behind a mark", "func f() { return ", "1+(", "1", ")", "; }", 198, 3},
	{"brackets of let", "func f() { let a = ", "(", "1", ")", "; }", 198, 1},
	{"brackets of while", "func f() { while ", "(", "1", ")", "{ } }", 198, 1},
	{"brackets of if", "func f() { if ", "(", "1", ")", "{ } }", 198, 1},
	{"brackets of a statement", "func f() { ", "(", "g()", ")", "; }", 198, 1},
	{"brackets ahead of =", "func f() { ", "(", "a", ")", " = 1; }", 198, 1},
	{"brackets behind =", "func f() { a = ", "(", "1", ")", "; }", 198, 1},
	{"brackets in [ ]", "func f() { a[", "(", "1", ")", "] = 1; }", 197, 1},
	{"brackets of a word's value", "func f() { a[1] = ", "(", "1", ")", "; }", 198, 1},
	{"brackets in blocks", "func f() { while a { if b { return ", "(", "1", ")", "; } } }", 196, 1},
	{"brackets behind !", "func f() { return !", "(", "1", ")", "; }", 197, 1},
	{"blocks of while", "func f() { ", "while a { ", "", "} ", "}", 199, 6},
	{"blocks of if", "func f() { ", "if a { ", "", "} ", "}", 199, 3},
	{"blocks of else", "func f() { ", "if a { } else { ", "", "} ", "}", 199, 3},
	{"choices behind else", "func f() { ", "if a { } else ", "{ }", "", "}", 199, 3},
	{"choices behind else, the last without", "func f() { if b { } ", "else if a { } ", "", "", "}", 198, 8},
}

func (n nested) text(count int) string {
	return n.head + strings.Repeat(n.open, count) + n.core + strings.Repeat(n.close, count) + n.tail
}

func TestNestedJustDeepEnough(t *testing.T) {
	for _, n := range deepest {
		t.Run(n.name, func(t *testing.T) {
			for count := 1; count <= n.fits; count++ {
				program(t, n.text(count))
			}
		})
	}
}

func TestNestedTooDeep(t *testing.T) {
	for _, n := range deepest {
		t.Run(n.name, func(t *testing.T) {
			place := len(n.head) + n.fits*len(n.open) + n.at
			for _, more := range []int{1, 2, 100} {
				wantFault(t, n.text(n.fits+more), api.ErrNest, pos(1, place+1))
			}
		})
	}
}

// TestNestedStatements has a statement within the blocks: its expression is deeper than they are.
func TestNestedStatements(t *testing.T) {
	n := nested{head: "func f() { ", open: "while a { ", core: "g(); ", close: "} ", tail: "}"}
	program(t, n.text(198))
	wantFault(t, n.text(199), api.ErrNest, pos(1, len(n.head)+199*len(n.open)+1))
	n.core = "g(1); "
	program(t, n.text(197))
	wantFault(t, n.text(198), api.ErrNest, pos(1, len(n.head)+198*len(n.open)+len("g(")+1))
}

// TestMixedNest has one part of each kind around brackets.
func TestMixedNest(t *testing.T) {
	n := nested{
		head: "func f() { while a { if b { } else if c { } else { d[!-g(1, (", // what follows is 10 deep
		open: "(", core: "1", close: ")", tail: "))] = 1; } } }",
	}
	program(t, n.text(190))
	wantFault(t, n.text(191), api.ErrNest, pos(1, len(n.head)+191+1))
}

// TestComesBack has deep parts beside each other: what has ended is no longer around what follows.
func TestComesBack(t *testing.T) {
	deep := func(n int) string { return strings.Repeat("(", n) + "a" + strings.Repeat(")", n) }
	signs := strings.Repeat("!-", 99)
	program(t, "func f() { return "+deep(198)+" + "+deep(198)+" < "+deep(198)+" && "+deep(198)+"; }")
	program(t, "func f() { return g("+deep(197)+", "+deep(197)+") + b["+deep(197)+"]; }")
	program(t, "func f() { return "+signs+"a + "+signs+"a; }")
	program(t, "func f() { b["+deep(197)+"] = "+deep(198)+"; let x = "+deep(198)+"; g("+deep(197)+"); }")
	chain := strings.Repeat("if a { } else ", 199) + "{ } "
	program(t, "func f() { "+strings.Repeat(chain, 3)+"return "+deep(198)+"; } func g() { "+chain+"}")
	many := strings.Repeat("if a { g(); } else { g(); } while a { } ", 1000)
	program(t, "func f() { "+many+"return "+deep(198)+"; }")
	wantFault(t, "func f() { return "+deep(198)+" + "+deep(199)+"; }", api.ErrNest, pos(1, 18+2*198+1+3+199+1))
}

// TestChainsAreNotNested has more marks in a row than parts may be nested.
func TestChainsAreNotNested(t *testing.T) {
	for _, mark := range []string{"+", "*", "&&", "||", "<<"} {
		e := program(t, "func f() { return a"+strings.Repeat(mark+"a", 20000)+"; }").Funcs[0].Body[0].E[0]
		levels := 0
		for len(e.Kids) == 2 {
			levels++
			e = e.Kids[0]
		}
		if levels != 20000 {
			t.Errorf("%s: %d", mark, levels)
		}
	}
}

// TestFirstOfNestAndToken has both faults: the one that stands first is told.
func TestFirstOfNestAndToken(t *testing.T) {
	wantFault(t, "func f() { return "+strings.Repeat("(", 100)+";", api.ErrToken, pos(1, 119))
	wantFault(t, "func f() { return "+strings.Repeat("(", 300), api.ErrNest, pos(1, 218))
	wantFault(t, "func f() { return "+strings.Repeat("!", 300), api.ErrNest, pos(1, 217))
	wantFault(t, "func f() { return 1 2; return "+strings.Repeat("!", 300), api.ErrToken, pos(1, 21))
	wantFault(t, "func f() { "+strings.Repeat("while a { ", 300)+"@", api.ErrSign, pos(1, 3012))
}
