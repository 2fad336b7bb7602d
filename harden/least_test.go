package harden_test

import (
	"fmt"
	"maps"
	"math/rand"
	"slices"
	"testing"

	"palings/api"
	"palings/build"
	"palings/fold"
	"palings/harden"
	"palings/parse"
	"palings/ssa"
	"palings/taint"
)

func TestLightest(t *testing.T) {
	for _, c := range []struct {
		what  string
		texts []string
		want  string
	}{
		{"ahead of a loop is lighter", []string{"; 1=5; 2=load 4 1; to 1 | ; 3=add 2 1; 4=load 4 3; if 1 to 1 to 2 | ; ret 1"}, "2 =1"},
		{"behind a loop is lighter", []string{"; 1=5; to 1 1 | 2; 3=load 4 1; if 1 to 1 1 to 2 3 | 4; 5=load 4 4; ret 5"}, "4 =1"},
		{"behind a loop is lighter, of a loop's parameter", []string{"; 1=5; to 1 1 | 2; 3=load 4 1; 4=add 2 3; if 1 to 1 4 to 2 | ; 5=add 4 1; 6=load 4 5; ret 6"}, "5 =1"},
		{"between two loops is lighter", []string{"; 1=5; to 1 | ; 2=load 4 1; if 1 to 1 to 2 2 | 3; to 3 3 | 4; 5=load 4 4; 6=add 4 5; if 1 to 3 4 to 4 | ; ret 1"}, "3 =1"},
		{"the outer loop is lighter than the inner one", []string{"; 1=5; to 1 | ; to 2 | ; 3=load 4 1; if 1 to 2 to 3 3 | 4; 5=load 4 4; if 1 to 1 to 4 | ; ret 1"}, "4 =10"},
		{"of four loops the outermost one is lightest", []string{"; 1=5; to 1 | ; 2=load 4 1; to 2 2 | 3; to 3 3 | 4; to 4 4 | 5; 6=load 4 5; if 1 to 4 5 to 5 | ; if 1 to 3 4 to 6 | ; if 1 to 2 3 to 7 | ; if 1 to 1 to 8 | ; ret 1"}, "2 =10"},
		{"four loops and five weigh the same: the one near the Load", []string{"; 1=5; to 1 | ; to 2 | ; to 3 | ; to 4 | ; to 5 | ; 2=load 4 1; if 1 to 5 to 6 2 | 3; 4=load 4 3; if 1 to 4 to 7 | ; if 1 to 3 to 8 | ; if 1 to 2 to 9 | ; if 1 to 1 to 10 | ; ret 1"}, "2 =10000"},
		{"five loops are heavier than three", []string{"; 1=5; to 1 | ; to 2 | ; to 3 | ; to 4 | ; to 5 | ; 2=load 4 1; if 1 to 5 to 6 2 | 3; if 1 to 4 to 7 3 | 4; 5=load 4 4; if 1 to 3 to 8 | ; if 1 to 2 to 9 | ; if 1 to 1 to 10 | ; ret 1"}, "4 =1000"},
		{"a loop that turns what it is by goes round what is cut", []string{"; 1=5; to 1 1 | 2; 3=load 4 2; if 1 to 1 3 to 2 | ; ret 1"}, "3 =10"},
		{"what goes round a loop and comes from ahead of it", []string{"; 1=5; 2=load 4 1; to 1 1 | 3; 4=add 2 3; 5=load 4 4; if 1 to 1 5 to 2 | ; ret 1"}, "4 =10"},
		{"one in a loop, one ahead of it, each by itself", []string{"; 1=5; 2=load 4 1; to 1 | ; 3=load 4 1; 4=div 2 3; if 1 to 1 to 2 | ; ret 1"}, "2 3 =11"},

		{"through a call nothing is wrong any more", []string{"; 1=5; 2=load 4 1; 3=call 1 2; ret 3", "1; 2=load 4 1; if 1 to 1 to 1 | ; ret 2"}, "| =0"},
		{"nor through a return", []string{"; 1=5; 2=call 1; 3=load 4 2; ret 3", "; 1=5; 2=load 4 1; ret 2"}, "| =0"},
		{"nor is what is secret: it has guards", []string{"; 1=get 2; 2=call 1 1; 3=load 4 2; ret 3", "1; 2=load 4 1; if 1 to 1 to 1 | ; ret 2"}, "| =0 0.0.2 1.0.0 1.0.1"},
		{"in the function that is called", []string{"; 1=5; 2=call 1 1; 3=load 4 2; ret 3", "1; 2=load 4 1; 3=load 4 2; ret 3"}, "|2 =1"},
		{"in one that calls itself", []string{"; 1=5; 2=call 1 1; ret 2", "1; 2=load 4 1; 3=call 1 2; 4=add 3 2; 5=load 4 4; 6=load 4 3; ret 5"}, "|2 =1"},
		{"in one that nobody calls", []string{"; 1=5; ret 1", "1; 2=load 4 1; 3=load 4 2; ret 3"}, "|2 =1"},
		{"through memory: what is read again is cut, not what is laid there", []string{"; 1=5; 2=load 4 1; set 0 2; 3=get 0; 4=load 4 3; ret 4"}, "3 =1"},
		{"through memory of another function", []string{"; 1=5; 2=load 4 1; set 0 2; 3=call 1; ret 3", "; 1=get 0; 2=load 4 1; ret 2"}, "|1 =1"},
		{"through a parameter of a block, from several Loads", []string{"; 1=5; 2=load 4 1; 3=load 4 1; 4=load 4 1; if 1 to 1 2 to 1 3 | 5; if 1 to 2 5 to 2 4 | 6; 7=load 4 6; ret 7"}, "6 =1"},
	} {
		p := program(t, c.texts...)
		h := plan(t, p)
		if got := fences(h); got != c.want {
			t.Errorf("%s: %q, not %q", c.what, got, c.want)
		}
		sinksAreGuarded(t, c.what, p, h)
		for fn := range p.Funcs {
			n, values := net(t, p, fn)
			sameCut(t, c.what, n, values, h, fn)
		}
	}
}

// So many Loads ahead of a loop come together in it: up to ten of them are as light as what they come to.
func TestManyLoadsOrOneInALoop(t *testing.T) {
	for count := 1; count < 15; count++ {
		first, sum, last := "; 1=5", "", 1
		for v := 2; v < count+2; v++ {
			first += fmt.Sprintf("; %d=load 4 1", v)
			sum += fmt.Sprintf("; %d=add %d %d", v+100, v, last)
			last = v + 100
		}
		p := program(t, first+"; to 1 | "+sum+fmt.Sprintf("; 500=load 4 %d; if 1 to 1 to 2 | ; ret 1", last))
		h := plan(t, p)
		if count <= 10 && (len(h.Values(0)) != count || h.Weight != int64(count)) || count > 10 && (fences(h) != fmt.Sprintf("%d =10", last)) {
			t.Error(count, fences(h))
		}
	}
}

// Programs as texts: of which values there are fences hangs on how they are built, so it is told how many, what they weigh, and how many guards there are.
func TestTexts(t *testing.T) {
	for _, c := range []struct {
		text         string
		cuts, guards int
		weight       int64
	}{
		{"public h[4]; func main() { return h[2]; }", 0, 0, 0},
		{"public h[4]; func main() { return h[h[h[0] & 3] & 3]; }", 2, 0, 2},
		{"public h[4]; func main() { let i = 0; let s = 0; while i < 4 { s = s + h[i]; i = i + 1; } return s; }", 0, 0, 0},
		{"public h[4]; func main() { let i = 0; let s = 0; while i < 4 { s = s + h[h[i] & 3]; i = i + 1; } return s; }", 1, 0, 10},
		{"public h[4]; func main() { let x = h[0]; let i = 0; let s = 0; while i < 4 { s = s + h[x & 3]; i = i + 1; } return s; }", 1, 0, 1},
		{"public h[4]; func main() { let x = 0; let i = 0; while i < 4 { x = h[i]; i = i + 1; } return h[x & 3]; }", 1, 0, 1},
		{"public h[4]; func f(x) { return h[x & 3]; } func main() { return f(f(f(h[0]))); }", 0, 0, 0},
		{"secret k[4]; func main() { let i = 0; let s = 0; while i < 4 { s = s + k[i]; i = i + 1; } return s; }", 0, 0, 0},
		{"secret k[4]; func main() { let i = 0; let s = 0; while i < 4 { if k[i] < s { s = k[i]; } i = i + 1; } return s; }", 0, 1, 0},
		{"var n; func main() { n = 3; if n < 4 { return 1; } return 2; }", 1, 0, 1},
		{"public n; func main() { if n < 4 { return 1; } return 2; }", 0, 0, 0},
	} {
		tree, f := parse.Program(c.text)
		if f.E != api.OK {
			t.Error(c.text, f)
			continue
		}
		blocks, _ := build.Program(tree)
		p, e := fold.Program(blocks)
		if e != api.OK {
			t.Error(c.text, e)
			continue
		}
		h := plan(t, p)
		if h.Fences() != c.cuts+c.guards || len(h.Guards) != c.guards || h.Weight != c.weight {
			t.Errorf("%s: %s", c.text, fences(h))
		}
		sinksAreGuarded(t, c.text, p, h)
	}
}

// transient tells whether a function has a sink of what may be wrong for a while, with that cut.
func transient(t *testing.T, p ssa.Prog, cut []map[int]bool, fn int) bool {
	t.Helper()
	l, e := taint.Of(p, cut)
	if e != api.OK {
		t.Fatal(e)
	}
	return slices.ContainsFunc(taint.Sinks(p, l), func(s taint.Sink) bool { return s.Fn == fn && s.Label == api.Transient })
}

// Where all blocks can be come to, labels alone tell which values cut: of all choices of values that may be wrong none is lighter, and none of those that are cut is needless.
func TestNoChoiceIsLighter(t *testing.T) {
	tried := 0
	for seed := range int64(3000) {
		p := made(seed)
		h := plan(t, p)
		for fn, f := range p.Funcs {
			n, values := net(t, p, fn)
			if slices.Contains(f.Reach(), false) || len(values) > 6 || len(h.Values(fn)) == 0 {
				continue
			}
			tried++
			for mask := range 1 << len(values) {
				chosen, places := map[int]bool{}, []int{}
				for place, v := range values {
					if mask>>place&1 == 1 {
						chosen[v] = true
						places = append(places, place)
					}
				}
				if n.Weight(places) < weightOf(n.Weights, values, h.Cut[fn]) {
					cut := slices.Clone(h.Cut)
					cut[fn] = chosen
					if !transient(t, p, cut, fn) {
						t.Fatalf("seed %d: function %d: %v cuts, and is lighter than %v: of %+v", seed, fn, chosen, h.Cut[fn], p)
					}
				}
			}
			for v := range h.Cut[fn] {
				cut := slices.Clone(h.Cut)
				cut[fn] = maps.Clone(h.Cut[fn])
				delete(cut[fn], v)
				if !transient(t, p, cut, fn) {
					t.Fatalf("seed %d: function %d: %d is cut for nothing: of %+v", seed, fn, v, p)
				}
			}
		}
	}
	if tried < 500 {
		t.Error("too few were tried:", tried)
	}
	t.Log(tried)
}

func weightOf(weights []int64, values []int, cut map[int]bool) int64 {
	sum := int64(0)
	for place, v := range values {
		if cut[v] {
			sum += weights[place]
		}
	}
	return sum
}

// walk is a run of a function of which each branch goes anywhere, and each word of memory may be wrong, of which it is told what is wrong for a while.
type walk struct {
	*rand.Rand
	p     ssa.Prog
	h     harden.Plan
	fn    int
	wrong map[int]bool
}

// make lets a value be made: behind a fence it isn't wrong.
func (w *walk) make(v int, isWrong bool) {
	w.wrong[v] = isWrong && !w.h.Cut[w.fn][v]
}

func (w *walk) isWrong(v int) bool { return w.wrong[v] }

// instruction tells whether something that is wrong becomes known of it.
func (w *walk) instruction(i ssa.Ins) bool {
	isKnown := slices.ContainsFunc(taint.Known(i), w.isWrong)
	isTurned := i.Op == ssa.Load || i.Op == ssa.Get && taint.Writes(w.p)[i.Arr]
	if i.Dst != 0 {
		w.make(i.Dst, isTurned || i.Op != ssa.Call && slices.ContainsFunc(i.Args, w.isWrong))
	}
	return isKnown
}

// goOn goes along a way: parameters are told at once.
func (w *walk) goOn(b ssa.Block) int {
	way := b.End.Ways[w.Intn(len(b.End.Ways))]
	var wrong []bool
	for _, v := range way.Args {
		wrong = append(wrong, w.wrong[v])
	}
	for k, v := range w.p.Funcs[w.fn].Blocks[way.To].Params {
		w.make(v, wrong[k])
	}
	return way.To
}

// steps goes through blocks until the function ends, or long enough, and tells the places, without a guard, at which something wrong becomes known.
func (w *walk) steps(blocks int) []harden.Place {
	var out []harden.Place
	tell := func(b, at int, isKnown bool) {
		if g := (harden.Place{Fn: w.fn, Block: b, At: at}); isKnown && !w.h.Guarded(g) {
			out = append(out, g)
		}
	}
	at := 0
	for range blocks {
		b := w.p.Funcs[w.fn].Blocks[at]
		for k, i := range b.Ins {
			tell(at, k, w.instruction(i))
		}
		tell(at, len(b.Ins), b.End.Kind == ssa.Branch && w.wrong[b.End.Val])
		if len(b.End.Ways) == 0 {
			break
		}
		at = w.goOn(b)
	}
	return out
}

// Wherever runs go, and whatever memory is for a while, nothing wrong becomes known of them but where a guard stands; without the cut much does.
func TestNothingWrongBecomesKnown(t *testing.T) {
	without := 0
	for seed := range int64(4000) {
		p := made(seed)
		h := plan(t, p)
		for fn := range p.Funcs {
			w := &walk{rand.New(rand.NewSource(seed)), p, h, fn, map[int]bool{}}
			for range 5 {
				if found := w.steps(40); len(found) > 0 {
					t.Fatalf("seed %d: %v with %s: of %+v", seed, found, fences(h), p)
				}
				clear(w.wrong)
			}
			w.h.Cut = make([]map[int]bool, len(p.Funcs))
			if len(h.Cut[fn]) > 0 && len(w.steps(200)) > 0 {
				without++
			}
		}
	}
	if without < 1500 {
		t.Error("too few have a hazard:", without)
	}
	t.Log(without)
}
