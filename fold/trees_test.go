package fold_test

import (
	"fmt"
	"math/rand"
	"strings"
	"testing"

	"palings/api"
	"palings/build"
	"palings/parse"
	"palings/sim"
	"palings/ssa"
)

func built(t *testing.T, text string) ssa.Prog {
	t.Helper()
	tree, f := parse.Program(text)
	if f.E != api.OK {
		t.Fatal(f, text)
	}
	p, e := build.Program(tree)
	if e != api.OK {
		t.Fatal(e, text)
	}
	return p
}

const globals = "public n; secret s; public h[3]; var g; "

// few is inputs of globals.
func few() [][][]int64 {
	var ins [][][]int64
	for _, n := range []int64{0, 1, 2, 3, -4, 1 << 33} {
		for _, s := range []int64{0, 1, -1} {
			ins = append(ins, [][]int64{{n}, {s}, {n, s, 2}})
		}
	}
	return ins
}

func TestTexts(t *testing.T) {
	for _, c := range []struct {
		text   string
		blocks int // of main
		ins    int
		leaks  string // of n = 2
	}{
		{"func main() { return 1 + 2 * 3 - 4; }", 1, 1, "[]"},
		{"func main() { return 6 / 2; }", 2, 3, "[{3 6 2}]"},
		{"func main() { return n / 0; }", 2, 0, "[]"},
		{"func main() { return 7 % n; }", 3, 3, "[{1 1 0} {3 7 2}]"},
		{"func main() { if true { return 1; } return 2; }", 2, 1, "[]"},
		{"func main() { if 1 < 2 && 3 < 4 { return n; } return h[0]; }", 4, 1, "[]"},
		{"func main() { while false { g = g + 1; } }", 3, 1, "[]"},
		{"func main() { let x = 3; while x < 3 { x = x + 1; } return x; }", 4, 5, "[{1 0 0}]"},
		{"func main() { let x = n; let y = x; while y < 9 { x = x + 0; y = y + 1; } return x; }", 4, 5, "[{1 1 0} {1 1 0} {1 1 0} {1 1 0} {1 1 0} {1 1 0} {1 1 0} {1 0 0}]"},
		{"func main() { return h[0] + h[1] + h[n]; }", 5, 10, "[{2 0 0} {2 1 0} {1 1 0} {2 2 0}]"},
		{"func f(x) { return x * x * 1; } func main() { let y = f(n); f(3); return y | 0; }", 1, 4, "[]"},
	} {
		p := built(t, globals+c.text)
		q := folded(t, p)
		sameOn(t, p, q, few())
		n := sizes(ssa.Prog{Funcs: q.Funcs[q.Main : q.Main+1]})
		r, e := sim.Run(q, [][]int64{{2}, {5}, {1, 2, 3}}, steps)
		if n[0] != c.blocks || n[2] != c.ins || e != api.OK || fmt.Sprint(r.Leaks) != c.leaks {
			t.Error(c.text, n, e, r.Leaks, written(q.Funcs[q.Main]))
		}
	}
}

// Programs that don't end, or don't within so many steps, or call too deep.
func TestNoEnd(t *testing.T) {
	for _, text := range []string{
		"func main() { while true { } }",
		"func main() { while 1 < 2 { g = g + 0; } return g; }",
		"func main() { return main(); }",
		"func f(x) { if x < 1 + 1 { return 0; } return f(x - 1) + 0; } func main() { return f(n * 1000 * 1000); }",
		"func main() { let x = 0; while x <= n * 1 { x = x - 1 + 0 * 3; } return x; }",
	} {
		p := built(t, globals+text)
		q := folded(t, p)
		if n := sameOn(t, p, q, few()); n == len(few()) {
			t.Error(text, "ends always")
		}
	}
}

// writer writes texts that are programs, with names x0, x1 and so on, which are all there from a function's beginning on.
type writer struct {
	*rand.Rand
	b     strings.Builder
	fn    int
	loops int
}

func (w *writer) say(format string, args ...any) { fmt.Fprintf(&w.b, format, args...) }

func text(seed int64) string {
	w := &writer{Rand: rand.New(rand.NewSource(seed))}
	w.say(globals)
	for w.fn = range 3 {
		w.say("func %s { let x0 = 0; let x1 = 1; let x2 = %s; let x3 = %d; ", []string{"f0(p)", "f1(p, q)", "main()"}[w.fn], []string{"p", "q", "n"}[w.fn], w.Intn(5))
		for range 2 + w.Intn(4) {
			w.stmt(3)
		}
		w.say("return %s; } ", w.expr(2))
	}
	return w.b.String()
}

func (w *writer) stmt(deep int) {
	kind := w.Intn(10)
	if deep == 0 {
		kind = w.Intn(6)
	}
	switch kind {
	case 0, 1, 2, 3:
		w.say("x%d = %s; ", w.Intn(4), w.expr(2))
	case 4:
		w.say("h[%s & 1] = %s; ", w.expr(1), w.expr(1))
	case 5:
		w.say("g = %s; ", w.expr(2))
	case 6, 7, 8:
		w.say("if %s { ", w.truth())
		w.stmts(deep - 1)
		if w.Intn(2) == 0 {
			w.say("} else { ")
			w.stmts(deep - 1)
		}
		w.say("} ")
	case 9:
		w.loops++
		w.say("let c%d = %d; while c%d < %d { c%d = c%d + 1; ", w.loops, w.Intn(3), w.loops, w.Intn(4), w.loops, w.loops)
		w.stmts(deep - 1)
		w.say("} ")
	}
}

func (w *writer) stmts(deep int) {
	for range w.Intn(3) {
		w.stmt(deep)
	}
	if w.Intn(8) == 0 {
		w.say("return %s; ", w.expr(1))
	}
}

func (w *writer) expr(deep int) string {
	if deep == 0 || w.Intn(4) == 0 {
		return []string{"x0", "x1", "x2", "x3", "n", "s", "g", "0", "1", "2", "(0 - 1)"}[w.Intn(11)]
	}
	a, b := w.expr(deep-1), w.expr(deep-1)
	switch w.Intn(8) {
	case 0:
		return fmt.Sprintf("(%s %s %s)", a, []string{"/", "%"}[w.Intn(2)], b)
	case 1:
		if w.fn > 0 {
			return fmt.Sprintf("f%d(%s)", w.fn-1, strings.Join([]string{a, b}[:w.fn], ", "))
		}
	case 2:
		return fmt.Sprintf("h[%s & 3]", a)
	}
	return fmt.Sprintf("(%s %s %s)", a, []string{"+", "-", "*", "&", "|", "^", "<<", ">>", "+", "*"}[w.Intn(10)], b)
}

func (w *writer) truth() string {
	one := func() string {
		return fmt.Sprintf("%s %s %s", w.expr(1), []string{"<", "<=", "==", "!=", ">", ">="}[w.Intn(6)], w.expr(1))
	}
	switch w.Intn(6) {
	case 0:
		return []string{"true", "false", "!false"}[w.Intn(3)]
	case 1:
		return one() + " && " + one()
	case 2:
		return one() + " || " + one()
	}
	return one()
}

func TestMadeTexts(t *testing.T) {
	var was, is [3]int
	ended := 0
	for seed := range int64(800) {
		p := built(t, text(seed))
		q := folded(t, p)
		for k, n := range sizes(p) {
			was[k] += n
			is[k] += sizes(q)[k]
		}
		ended += sameOn(t, p, q, few())
	}
	for k := range was {
		if is[k] >= was[k]*19/20 || is[k] < was[k]/20 {
			t.Error("not much to do:", was, is)
		}
	}
	if ended < 800*15 {
		t.Error("too few that end:", ended)
	}
	t.Log(was, is, ended)
}
