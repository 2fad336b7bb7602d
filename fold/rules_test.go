package fold_test

import (
	"fmt"
	"math"
	"strings"
	"testing"

	"palings/fold"
	"palings/word"
)

// turn is a function, and what becomes of it; "": it stays.
type turn struct {
	what string
	from string
	to   string
}

func (c turn) try(t *testing.T) {
	t.Helper()
	f := read(t, c.from)
	if written(f) != c.from {
		t.Fatalf("%s: %q is told otherwise: %q", c.what, c.from, written(f))
	}
	if c.to == "" {
		c.to = c.from
	}
	q := folded(t, around(t, f))
	if got := written(q.Funcs[0]); got != c.to {
		t.Errorf("%s: %s\nbecame %s\nwant   %s", c.what, c.from, got, c.to)
	}
	if again := written(fold.Func(q.Funcs[0])); again != c.to {
		t.Errorf("%s: again it became %s", c.what, again)
	}
	sameInBlocks(t, around(t, f), q)
}

func TestExample(t *testing.T) {
	turn{"2 and 3", "; 1=2; 2=3; 3=add 1 2; ret 3", "; 3=5; ret 3"}.try(t)
}

func TestBlocksThatNothingComesTo(t *testing.T) {
	for _, c := range []turn{
		{"the last one", "; 1=5; ret 1 | ; bounds", "; 1=5; ret 1"},
		{"with a way to another one", "; 1=get 0; to 2 | ; to 2 | ; ret 1", "; 1=get 0; to 1 | ; ret 1"},
		{"with a value that another one is", "; 1=get 0; to 2 1 | ; 2=7; to 2 2 | 3; ret 3", "; 1=get 0; to 1 | ; ret 1"},
		{"that ask for what isn't made", "; 1=get 0; to 2 1 | ; set 0 99; to 2 99 | 3; ret 3", "; 1=get 0; to 1 | ; ret 1"},
		{"to itself", "; 1=5; ret 1 | 2; to 1 2", "; 1=5; ret 1"},
		{"a ring", "; 1=5; ret 1 | ; to 2 | ; to 3 | ; to 1", "; 1=5; ret 1"},
		{"a ring with a way out", "; 1=5; to 4 | ; to 2 | ; to 3 | ; if 1 to 1 to 4 | ; ret 1", "; 1=5; to 1 | ; ret 1"},
		{"amidst, so that others move up", "; 1=get 0; if 1 to 2 to 4 | ; to 2 | ; to 5 | ; to 4 | ; ret 1 | ; bounds", "; 1=get 0; if 1 to 1 to 2 | ; to 3 | ; ret 1 | ; bounds"},
		{"none", "; 1=get 0; if 1 to 2 to 1 | ; ret 1 | ; bounds", ""},
	} {
		c.try(t)
	}
}

// texts of numbers at the edges
var edges = []int64{0, 1, -1, 2, 3, -7, 63, 64, -64, 65, math.MaxInt64, math.MaxInt64 - 1, math.MinInt64, math.MinInt64 + 1, 1 << 32, -1 << 31}

func TestBinOfTwoConsts(t *testing.T) {
	for o := word.Add; o.Known(); o++ {
		for _, a := range edges {
			for _, b := range edges {
				from := fmt.Sprintf("; 1=%d; 2=%d; 3=%s 1 2; set 0 3; ret 3", a, b, o)
				n, _ := word.Do(o, a, b)
				to := fmt.Sprintf("; 3=%d; set 0 3; ret 3", n)
				switch {
				case o.Divides() && a == b:
					to = fmt.Sprintf("; 1=%d; 3=%s 1 1; set 0 3; ret 3", a, o)
				case o.Divides():
					to = from
				case n == a: // it may be that one as well
					to = fmt.Sprintf("; 1=%d; set 0 1; ret 1", n)
				case n == b:
					to = fmt.Sprintf("; 2=%d; set 0 2; ret 2", n)
				}
				turn{"", from, to}.try(t)
			}
		}
	}
}

func TestConstsOfOtherBlocks(t *testing.T) {
	for _, c := range []turn{
		{"both", "; 1=2; 2=3; to 1 | ; 3=shl 1 2; ret 3", "; to 1 | ; 3=16; ret 3"},
		{"one", "; 1=2; to 1 | ; 2=3; 3=shl 1 2; ret 3", "; to 1 | ; 3=16; ret 3"},
		{"twice one", "; 1=2; to 1 | ; to 2 | ; 2=mul 1 1; ret 2", "; to 1 | ; to 2 | ; 2=4; ret 2"},
		{"a long way", "; 1=2; 2=3; 3=add 1 2; 4=mul 3 3; 5=sub 4 1; 6=lt 5 4; ret 6", "; 6=1; ret 6"},
		{"in a loop", "; 1=2; 2=get 0; to 1 | ; 3=add 1 1; set 0 3; if 2 to 1 to 2 | ; ret 2", "; 2=get 0; to 1 | ; 3=4; set 0 3; if 2 to 1 to 2 | ; ret 2"},
		{"a parameter that is one", "; 1=2; 2=get 0; if 2 to 1 1 to 1 1 | 3; 4=add 3 3; ret 4", "; 2=get 0; if 2 to 1 to 1 | ; 4=4; ret 4"},
		{"a parameter that is none", "; 1=2; 2=3; 3=get 0; if 3 to 1 1 to 1 2 | 4; 5=add 4 1; ret 5", ""},
		{"a word", "; 1=2; 2=get 0; 3=add 1 2; ret 3", ""},
	} {
		c.try(t)
	}
}

// Each op with each small number at each side, in the Bin's block and in another one.
func TestConstThatDoesNothing(t *testing.T) {
	for o := word.Add; o.Known(); o++ {
		for _, n := range []int64{0, 1, -1, 2, -2, 64, math.MinInt64, math.MaxInt64} {
			idle, has := nothing[o]
			for left, form := range []string{"; 1=get 0; 2=%d; 3=%s 1 2; set 1 3; ret 3", "; 1=get 0; 2=%d; 3=%s 2 1; set 1 3; ret 3"} {
				from := fmt.Sprintf(form, n, o)
				to := from
				if has && n == idle && (left == 0 || swaps[o]) {
					to = "; 1=get 0; set 1 1; ret 1"
				}
				turn{fmt.Sprint("in one block ", n), from, to}.try(t)
				from = strings.Replace(from, "; 3", "; to 1 | ; 3", 1)
				if to != "; 1=get 0; set 1 1; ret 1" {
					to = from
				} else {
					to = "; 1=get 0; to 1 | ; set 1 1; ret 1"
				}
				turn{fmt.Sprint("in two blocks ", n), from, to}.try(t)
			}
		}
	}
}

func TestTwoBins(t *testing.T) {
	for o := word.Add; o.Known(); o++ {
		one := func(form string) string { return strings.ReplaceAll(form, "op", o.String()) }
		same := "; 1=get 0; 2=get 1; 3=op 1 2; 4=op 1 2; store 2 3 4; ret 4"
		round := "; 1=get 0; 2=get 1; 3=op 1 2; 4=op 2 1; store 2 3 4; ret 4"
		first := one("; 1=get 0; 2=get 1; 3=op 1 2; store 2 3 3; ret 3")
		c, d := turn{"the same way", one(same), first}, turn{"the other way round", one(round), ""}
		if o.Divides() {
			c.to = ""
		}
		if swaps[o] {
			d.to = first
		}
		c.try(t)
		d.try(t)
	}
	for _, c := range []turn{
		{"of two ops", "; 1=get 0; 2=get 1; 3=add 1 2; 4=sub 1 2; 5=or 1 2; set 0 3; set 0 4; ret 5", ""},
		{"of other sides", "; 1=get 0; 2=get 1; 3=add 1 2; 4=add 1 1; 5=add 2 2; set 0 3; set 0 4; ret 5", ""},
		{"in two blocks", "; 1=get 0; 2=get 1; 3=add 1 2; to 1 | ; 4=add 1 2; store 2 3 4; ret 4", ""},
		{"in two blocks, twice", "; 1=get 0; 2=get 1; 3=add 1 2; 4=add 2 1; to 1 | ; 5=add 1 2; 6=add 2 1; store 2 3 4; store 2 5 6; ret 4", "; 1=get 0; 2=get 1; 3=add 1 2; to 1 | ; 5=add 1 2; store 2 3 3; store 2 5 5; ret 3"},
		{"three, of unordered numbers", "; 9=get 0; 2=get 1; 8=add 9 2; 3=add 2 9; 7=add 9 2; store 2 8 3; ret 7", "; 9=get 0; 2=get 1; 8=add 9 2; store 2 8 8; ret 8"},
		{"those of two that are one", "; 1=get 0; 2=get 1; 3=sub 1 2; 4=sub 1 2; 5=sub 3 4; 6=sub 4 3; 7=sub 3 1; 8=sub 4 1; store 2 5 6; store 2 7 8; ret 8", "; 1=get 0; 2=get 1; 3=sub 1 2; 5=sub 3 3; 7=sub 3 1; store 2 5 5; store 2 7 7; ret 7"},
		{"with a Store between them", "; 1=get 0; 2=add 1 1; store 2 1 2; set 0 1; 3=add 1 1; ret 3", "; 1=get 0; 2=add 1 1; store 2 1 2; set 0 1; ret 2"},
		{"two words, which stay", "; 1=get 0; 2=get 0; 3=load 2 1; 4=load 2 1; 5=call 1; 6=call 1; store 2 1 2; store 2 3 4; store 2 5 6; ret 1", ""},
		{"by Consts of one number in two blocks, which aren't one", "; 1=get 0; 2=7; to 1 | ; 3=7; 4=add 1 2; 5=add 1 3; store 2 4 5; ret 4", ""},
	} {
		c.try(t)
	}
}

func TestTwoConsts(t *testing.T) {
	for _, c := range []turn{
		{"of one number", "; 1=7; 2=7; store 2 1 2; ret 2", "; 1=7; store 2 1 1; ret 1"},
		{"of unordered numbers", "; 9=7; 2=8; 1=7; store 2 9 1; ret 2", "; 9=7; 2=8; store 2 9 9; ret 2"},
		{"of two numbers", "; 1=7; 2=-7; store 2 1 2; ret 2", ""},
		{"in two blocks", "; 1=7; to 1 | ; 2=7; store 2 1 2; ret 2", ""},
		{"one that is reckoned", "; 1=get 0; 2=7; set 0 2; 3=3; 4=4; set 0 3; set 0 4; 5=add 3 4; store 2 5 1; ret 2", "; 1=get 0; 2=7; set 0 2; 3=3; 4=4; set 0 3; set 0 4; store 2 2 1; ret 2"},
		{"one that is reckoned ahead", "; 3=3; 4=4; set 0 3; set 0 4; 5=add 3 4; set 0 5; 1=7; ret 1", "; 3=3; 4=4; set 0 3; set 0 4; 5=7; set 0 5; ret 5"},
		{"five", "; 1=0; 2=0; 3=0; 4=1; 5=1; store 2 1 2; store 2 3 4; ret 5", "; 1=0; 4=1; store 2 1 1; store 2 1 4; ret 4"},
	} {
		c.try(t)
	}
}

func TestParameters(t *testing.T) {
	for _, c := range []turn{
		{"one way", "; 1=get 0; to 1 1 | 2; ret 2", "; 1=get 0; to 1 | ; ret 1"},
		{"two ways, one value", "; 1=get 0; if 1 to 1 1 to 1 1 | 2; ret 2", "; 1=get 0; if 1 to 1 to 1 | ; ret 1"},
		{"two ways, two values", "; 1=get 0; 2=get 1; if 1 to 1 1 to 1 2 | 3; ret 3", ""},
		{"two blocks, one value", "; 1=get 0; if 1 to 1 to 2 | ; to 3 1 | ; to 3 1 | 2; ret 2", "; 1=get 0; if 1 to 1 to 2 | ; to 3 | ; to 3 | ; ret 1"},
		{"a loop, itself", "; 1=get 0; to 1 1 | 2; 3=load 2 2; if 3 to 1 2 to 2 | ; ret 2", "; 1=get 0; to 1 | ; 3=load 2 1; if 3 to 1 to 2 | ; ret 1"},
		{"a loop, what it was ahead", "; 1=get 0; to 1 1 | 2; 3=load 2 2; if 3 to 1 1 to 2 | ; ret 2", "; 1=get 0; to 1 | ; 3=load 2 1; if 3 to 1 to 2 | ; ret 1"},
		{"a loop that counts", "; 1=get 0; 9=1; to 1 1 | 2; 3=sub 2 9; if 3 to 1 3 to 2 | ; ret 2", ""},
		{"a loop, by a parameter in it", "; 1=get 0; to 1 1 | 2; 3=load 2 2; if 3 to 2 2 to 3 | 4; to 1 4 | ; ret 2", "; 1=get 0; to 1 | ; 3=load 2 1; if 3 to 2 to 3 | ; to 1 | ; ret 1"},
		{"two loops, one in the other", "; 1=get 0; to 1 1 | 2; 3=load 2 2; if 3 to 2 2 to 3 | 4; 5=load 2 4; if 5 to 2 4 to 1 4 | ; ret 2", "; 1=get 0; to 1 | ; 3=load 2 1; if 3 to 2 to 3 | ; 5=load 2 1; if 5 to 2 to 1 | ; ret 1"},
		{"by what does nothing", "; 1=get 0; 9=0; to 1 1 | 2; 3=load 2 2; 4=add 2 9; if 3 to 1 4 to 2 | ; ret 2", "; 1=get 0; to 1 | ; 3=load 2 1; if 3 to 1 to 2 | ; ret 1"},
		{"two that change places", "; 1=get 0; 2=get 1; to 1 1 2 | 3 4; 5=load 2 3; if 5 to 1 4 3 to 2 | ; 6=sub 3 4; ret 6", ""},
		{"two that change places, of one value", "; 1=get 0; to 1 1 1 | 3 4; 5=load 2 3; if 5 to 1 4 3 to 2 | ; 6=sub 3 4; ret 6", ""},
		{"the second of three", "; 1=get 0; 2=get 1; if 1 to 1 1 2 1 to 1 2 2 2 | 3 4 5; store 2 3 4; ret 5", "; 1=get 0; 2=get 1; if 1 to 1 1 1 to 1 2 2 | 3 5; store 2 3 2; ret 5"},
		{"the first and the last one of three", "; 1=get 0; 2=get 1; if 1 to 1 1 2 1 to 1 1 1 1 | 3 4 5; store 2 3 4; ret 5", "; 1=get 0; 2=get 1; if 1 to 1 2 to 1 1 | 4; store 2 1 4; ret 1"},
		{"one that nobody uses", "; 1=get 0; 2=get 1; if 1 to 1 1 to 1 2 | 3; bounds", ""},
		{"on a chain", "; 1=get 0; to 1 1 | 2; to 2 2 | 3; to 3 3 | 4; ret 4", "; 1=get 0; to 1 | ; to 2 | ; to 3 | ; ret 1"},
		{"on a chain the other way round", "; 1=get 0; to 3 1 | 4; ret 4 | 3; to 1 3 | 2; to 2 2", "; 1=get 0; to 3 | ; ret 1 | ; to 1 | ; to 2"},
		{"of Consts of one number", "; 1=get 0; 2=7; 3=7; if 1 to 1 2 to 1 3 | 4; ret 4", "; 1=get 0; 2=7; if 1 to 1 to 1 | ; ret 2"},
		{"of Consts of one number in two blocks", "; 1=get 0; if 1 to 1 to 2 | ; 2=7; to 3 2 | ; 3=7; to 3 3 | 4; ret 4", ""},
	} {
		c.try(t)
	}
}

// The first block's parameters are the function's, whatever it is called with.
func TestFirstParametersStay(t *testing.T) {
	p := around(t, read(t, "; 1=7; 2=call 3 1 1 1; ret 2"))
	p.Funcs = append(p.Funcs, read(t, "5 4 9; 1=0; 2=add 4 1; to 1 2 9 | 3 8; 7=call 3 3 3 3; ret 3"))
	q := folded(t, p)
	if got := written(q.Funcs[3]); got != "5 4 9; to 1 | ; 7=call 3 4 4 4; ret 4" {
		t.Error(got)
	}
}

func TestBranchByAConst(t *testing.T) {
	for n, way := range map[int64]string{0: "2", 1: "1", -1: "1", 2: "1", math.MinInt64: "1", 1 << 32: "1"} {
		c := turn{fmt.Sprint("of ", n), fmt.Sprintf("; 1=%d; if 1 to 1 to 2 | ; 2=get 0; ret 2 | ; bounds", n), "; to 1 | ; bounds"}
		if way == "1" {
			c.to = "; to 1 | ; 2=get 0; ret 2"
		}
		c.try(t)
		c = turn{fmt.Sprint("both ways to one block, of ", n), fmt.Sprintf("; 1=%d; 2=get 0; 3=get 1; if 1 to 1 2 to 1 3 | 4; ret 4", n), "; 3=get 1; to 1 | ; ret 3"}
		if way == "1" {
			c.to = "; 2=get 0; to 1 | ; ret 2"
		}
		c.try(t)
		c = turn{fmt.Sprint("told by another block, of ", n), fmt.Sprintf("; 1=%d; to 1 | ; if 1 to 2 to 3 | ; 2=get 0; ret 2 | ; zero", n), "; to 1 | ; to 2 | ; zero"}
		if way == "1" {
			c.to = "; to 1 | ; to 2 | ; 2=get 0; ret 2"
		}
		c.try(t)
	}
	for _, c := range []turn{
		{"by a word, both ways to one block", "; 1=get 0; if 1 to 1 to 1 | ; ret 1", ""},
		{"by a parameter that is a Const", "; 1=0; to 1 1 | 2; if 2 to 2 to 3 | ; bounds | ; zero", "; to 1 | ; to 2 | ; zero"},
		{"by a parameter that is one of two Consts", "; 1=0; 2=3; 3=get 0; if 3 to 1 1 to 1 2 | 4; if 4 to 2 to 3 | ; bounds | ; zero", ""},
		{"by what divides", "; 1=4; 2=2; 3=div 1 2; if 3 to 1 to 2 | ; bounds | ; zero", ""},
		{"a loop that never ends", "; 1=1; to 1 | ; if 1 to 1 to 2 | ; ret 1", "; to 1 | ; to 1"},
		{"a loop that never goes round", "; 1=1; to 1 1 | 2; 3=add 2 2; if 1 to 2 to 1 3 | ; ret 2", "; 1=1; to 1 | ; to 2 | ; ret 1"},
	} {
		c.try(t)
	}
}

func TestWhatNobodyUses(t *testing.T) {
	for _, c := range []turn{
		{"a Const, a Get, a Bin", "; 1=get 0; 2=7; 3=get 1; 4=sub 2 3; ret 1", "; 1=get 0; ret 1"},
		{"what only those ask for that go", "; 1=get 0; 2=sub 1 1; 3=mul 2 2; 4=sub 3 2; bounds", "; bounds"},
		{"in another block", "; 1=get 0; 2=get 1; to 1 | ; 3=sub 2 2; 4=sub 3 2; ret 1", "; 1=get 0; to 1 | ; ret 1"},
		{"a Load, a Call, what divides", "; 1=get 0; 2=load 2 1; 3=call 1; 4=div 1 1; 5=mod 1 1; 6=call 2 1 1; bounds", ""},
		{"what they ask for", "; 1=get 0; 2=5; 3=sub 1 2; 4=load 2 3; 5=lt 1 2; 6=call 2 5 1; 7=le 1 2; 8=7; 9=div 7 8; bounds", ""},
		{"each op that doesn't divide", "; 1=get 0; 2=get 1; 3=add 1 2; 4=sub 1 2; 5=mul 1 2; 8=and 1 2; 9=or 1 2; 10=xor 1 2; 11=shl 1 2; 12=shr 1 2; 13=eq 1 2; 14=ne 1 2; 15=lt 1 2; 16=le 1 2; 17=below 1 2; bounds", "; bounds"},
		{"what is Set and Stored", "; 1=get 0; 2=get 1; 3=sub 1 2; 4=sub 2 1; set 0 3; store 2 4 1; bounds", ""},
		{"what is handed on, to one that nobody uses", "; 1=get 0; 2=get 1; 3=sub 1 2; if 1 to 1 3 to 1 2 | 4; bounds", ""},
		{"round a loop", "; 1=get 0; 2=1; to 1 2 | 3; 4=add 3 2; if 1 to 1 4 to 2 | ; bounds", ""},
	} {
		c.try(t)
	}
}

// One thing makes room for another one.
func TestRoundAndRound(t *testing.T) {
	for _, c := range []turn{
		{"a sum, a branch, a block, a parameter, a sum", "; 1=2; 2=3; 3=sub 2 1; 4=get 0; if 3 to 1 to 2 | ; to 3 1 | ; to 3 4 | 5; 6=mul 5 1; 7=add 6 4; ret 7", "; 4=get 0; to 1 | ; to 2 | ; 6=4; 7=add 6 4; ret 7"},
		{"a branch in a loop that its other end would turn", "; 1=0; 8=get 0; to 1 1 | 2; if 2 to 2 to 3 | ; 3=1; to 4 3 | ; to 4 2 | 4; if 8 to 1 4 to 5 | ; ret 4", ""},
		{"a branch out of a ring", "; 1=0; if 1 to 1 to 3 | ; to 2 | ; if 1 to 1 to 3 | ; ret 1", "; 1=0; to 1 | ; ret 1"},
		{"a loop that nothing comes to", "; 1=0; 2=get 0; if 1 to 1 2 to 3 2 | 3; 4=add 3 2; if 4 to 1 4 to 2 | ; to 3 4 | 5; 6=add 5 1; ret 6", "; 2=get 0; to 1 | ; ret 2"},
		{"a ring that is entered at two places", "; 1=0; 2=get 0; if 1 to 1 to 4 2 | ; if 2 to 2 2 to 3 2 | 3; 4=add 3 1; to 3 4 | 5; if 5 to 2 5 to 4 5 | 6; ret 6", "; 2=get 0; to 1 | ; ret 2"},
		{"two of those, one behind the other", "; 1=0; 2=get 0; if 1 to 1 to 4 1 | ; if 2 to 2 to 3 | ; to 3 | ; if 2 to 2 to 4 2 | 6; if 6 to 5 to 8 6 | ; if 2 to 6 to 7 | ; to 7 | ; if 2 to 6 to 8 2 | 7; 8=add 7 2; ret 8", "; 2=get 0; to 1 | ; to 2 | ; ret 2"},
		{"a ring of which a value is itself and 0, once nothing comes to it", "; 1=0; 2=get 0; 3=7; if 1 to 1 to 2 | ; to 3 3 3 | ; to 3 1 1 | 4 5; if 5 to 4 to 7 | ; if 2 to 5 2 to 6 2 | 6; 7=add 6 4; to 6 7 | 8; to 5 8 | ; ret 2", "; 2=get 0; to 1 | ; to 2 | ; to 3 | ; ret 2"},
		{"two alike by a parameter", "; 1=get 0; to 1 1 | 2; 3=sub 1 1; 4=sub 2 2; 5=sub 1 2; store 2 3 4; ret 5", "; 1=get 0; to 1 | ; 3=sub 1 1; store 2 3 3; ret 3"},
		{"a Const by a loop's parameter", "; 1=5; 9=get 0; to 1 1 | 2; 3=mul 2 2; if 9 to 1 2 to 2 | ; ret 3", "; 9=get 0; to 1 | ; 3=25; if 9 to 1 to 2 | ; ret 3"},
		{"the last one is known first, then the first one, then the one between", "; 1=get 0; 2=get 1; 9=0; 20=mul 1 1; 21=lt 1 1; 22=eq 1 1; 23=ne 1 1; 24=le 1 1; to 1 1 1 | 3 4; 5=sub 3 2; set 0 5; 6=sub 4 2; set 0 6; 7=sub 1 2; set 0 7; 8=add 3 9; 10=add 4 9; if 7 to 1 8 10 to 2 | ; ret 7", "; 1=get 0; 2=get 1; to 1 | ; 5=sub 1 2; set 0 5; set 0 5; set 0 5; if 5 to 1 to 2 | ; ret 5"},
		{"one that many ask for is another one, and so is the other side", "; 1=get 0; 2=get 1; 9=0; to 1 1 2 | 3 4; 5=sub 1 4; 6=sub 3 4; store 2 5 6; 20=mul 4 4; 21=lt 4 4; 22=eq 4 4; 8=add 4 9; 10=add 3 9; if 5 to 1 10 8 to 2 | ; ret 6", "; 1=get 0; 2=get 1; to 1 | ; 5=sub 1 2; store 2 5 5; if 5 to 1 to 2 | ; ret 5"},
		{"the earlier one is known later", "; 1=get 0; 2=7; to 1 1 | 3; 4=sub 3 2; 5=sub 1 2; store 2 4 5; if 1 to 1 3 to 2 | ; ret 5", "; 1=get 0; 2=7; to 1 | ; 4=sub 1 2; store 2 4 4; if 1 to 1 to 2 | ; ret 4"},
	} {
		c.try(t)
	}
}
