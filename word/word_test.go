package word_test

import (
	"math"
	"math/big"
	"testing"

	"palings/word"
)

const (
	least = math.MinInt64
	most  = math.MaxInt64
)

// kinds is each op, with what the document says of it.
var kinds = []struct {
	op                    word.Op
	number                int
	name                  string
	truth, divides, swaps bool
}{
	{word.Add, 1, "add", false, false, true},
	{word.Sub, 2, "sub", false, false, false},
	{word.Mul, 3, "mul", false, false, true},
	{word.Div, 4, "div", false, true, false},
	{word.Mod, 5, "mod", false, true, false},
	{word.And, 6, "and", false, false, true},
	{word.Or, 7, "or", false, false, true},
	{word.Xor, 8, "xor", false, false, true},
	{word.Shl, 9, "shl", false, false, false},
	{word.Shr, 10, "shr", false, false, false},
	{word.Eq, 11, "eq", true, false, true},
	{word.Ne, 12, "ne", true, false, true},
	{word.Lt, 13, "lt", true, false, false},
	{word.Le, 14, "le", true, false, false},
	{word.Below, 15, "below", true, false, false},
}

// noOps is numbers that are no op: those beside the ops, and some whose low bits are an op's.
var noOps = []word.Op{0, 16, 17, 31, 32, 100, 255, 256, 257, -1, -2, -15, -16, 1 << 32, 1<<32 + 1, math.MaxInt, math.MinInt, math.MinInt + 1}

// edges is words at which an op is likely to be wrong.
var edges = []int64{
	0, 1, -1, 2, -2, 3, -3, 7, -7, 10, -10, 62, 63, 64, 65, 127, 128, -62, -63, -64, -65,
	255, 256, 1<<31 - 1, 1 << 31, -1 << 31, 1<<32 - 1, 1 << 32, 1<<32 + 1, -1 << 32,
	1 << 62, 1<<62 - 1, -1 << 62, 0x5555555555555555, -0x5555555555555556,
	most, most - 1, least, least + 1,
}

func TestKinds(t *testing.T) {
	for _, k := range kinds {
		if int(k.op) != k.number {
			t.Errorf("%s is %d, want %d", k.name, int(k.op), k.number)
		}
		if !k.op.Known() {
			t.Errorf("%s isn't known", k.name)
		}
		if got := k.op.String(); got != k.name {
			t.Errorf("String of %d: %q, want %q", k.number, got, k.name)
		}
		if got := k.op.Truth(); got != k.truth {
			t.Errorf("Truth of %s: %v", k.name, got)
		}
		if got := k.op.Divides(); got != k.divides {
			t.Errorf("Divides of %s: %v", k.name, got)
		}
		if got := k.op.Swaps(); got != k.swaps {
			t.Errorf("Swaps of %s: %v", k.name, got)
		}
	}
}

func TestNoOps(t *testing.T) {
	list := append([]word.Op{}, noOps...)
	for o := word.Op(-300); o <= 300; o++ {
		if o < 1 || o > 15 {
			list = append(list, o)
		}
	}
	for _, o := range list {
		if o.Known() || o.Truth() || o.Divides() || o.Swaps() {
			t.Errorf("%d: %v %v %v %v", int(o), o.Known(), o.Truth(), o.Divides(), o.Swaps())
		}
		if got := o.String(); got != "?" {
			t.Errorf("String of %d: %q", int(o), got)
		}
		for _, b := range edges {
			if v, ok := word.Do(o, 6, b); v != 0 || ok {
				t.Errorf("Do of %d, 6, %d: %d, %v", int(o), b, v, ok)
			}
		}
	}
}

func TestBool(t *testing.T) {
	if word.Bool(true) != 1 || word.Bool(false) != 0 {
		t.Error(word.Bool(true), word.Bool(false))
	}
}

func TestDo(t *testing.T) {
	for _, x := range []struct {
		o          word.Op
		a, b, want int64
	}{
		{word.Add, 2, 3, 5}, {word.Add, most, 1, least}, {word.Add, least, -1, most}, {word.Add, least, least, 0},
		{word.Sub, 2, 3, -1}, {word.Sub, least, 1, most}, {word.Sub, 0, least, least}, {word.Sub, most, -1, least},
		{word.Mul, -6, 7, -42}, {word.Mul, least, -1, least}, {word.Mul, most, most, 1}, {word.Mul, 1 << 32, 1 << 32, 0}, {word.Mul, most, 2, -2},
		{word.Div, 7, 2, 3}, {word.Div, -7, 2, -3}, {word.Div, 7, -2, -3}, {word.Div, -7, -2, 3}, {word.Div, 0, 5, 0},
		{word.Div, least, -1, least}, {word.Div, least, 1, least}, {word.Div, most, -1, -most}, {word.Div, least, least, 1}, {word.Div, 1, least, 0},
		{word.Mod, 7, 2, 1}, {word.Mod, -7, 2, -1}, {word.Mod, 7, -2, 1}, {word.Mod, -7, -2, -1}, {word.Mod, -6, 2, 0},
		{word.Mod, least, -1, 0}, {word.Mod, least, most, -1}, {word.Mod, most, least, most}, {word.Mod, least, 10, -8},
		{word.And, 12, 10, 8}, {word.And, -1, least, least}, {word.Or, 12, 10, 14}, {word.Or, most, least, -1}, {word.Xor, 12, 10, 6}, {word.Xor, -1, most, least},
		{word.Shl, 1, 0, 1}, {word.Shl, 1, 63, least}, {word.Shl, 1, 64, 1}, {word.Shl, 1, 65, 2}, {word.Shl, 3, -1, least}, {word.Shl, 5, -64, 5}, {word.Shl, 5, least, 5}, {word.Shl, 1, 1<<40 + 3, 8}, {word.Shl, -1, 4, -16},
		{word.Shr, -8, 1, -4}, {word.Shr, -1, 63, -1}, {word.Shr, most, 63, 0}, {word.Shr, least, 63, -1}, {word.Shr, -8, 64, -8}, {word.Shr, 8, 65, 4}, {word.Shr, least, -1, -1}, {word.Shr, 12, -62, 3}, {word.Shr, 12, most - 61, 3},
		{word.Eq, 3, 3, 1}, {word.Eq, 3, -3, 0}, {word.Ne, 3, 3, 0}, {word.Ne, least, most, 1},
		{word.Lt, -1, 0, 1}, {word.Lt, 0, 0, 0}, {word.Lt, 1, 0, 0}, {word.Lt, least, most, 1}, {word.Lt, most, least, 0},
		{word.Le, -1, 0, 1}, {word.Le, 0, 0, 1}, {word.Le, 1, 0, 0}, {word.Le, least, least, 1}, {word.Le, most, least, 0},
		{word.Below, 3, 4, 1}, {word.Below, 4, 4, 0}, {word.Below, 4, 3, 0}, {word.Below, -1, 0, 0}, {word.Below, 0, -1, 1}, {word.Below, -2, -1, 1}, {word.Below, -1, -2, 0}, {word.Below, most, least, 1}, {word.Below, least, most, 0}, {word.Below, -1, -1, 0},
	} {
		if v, ok := word.Do(x.o, x.a, x.b); v != x.want || !ok {
			t.Errorf("%v of %d, %d: %d, %v, want %d", x.o, x.a, x.b, v, ok, x.want)
		}
	}
}

func TestDivideByNought(t *testing.T) {
	for _, a := range edges {
		for _, o := range []word.Op{word.Div, word.Mod} {
			if v, ok := word.Do(o, a, 0); v != 0 || ok {
				t.Errorf("%v of %d, 0: %d, %v", o, a, v, ok)
			}
		}
	}
}

// TestDoEverywhere holds each op on all pairs of edges against numbers without bounds.
func TestDoEverywhere(t *testing.T) {
	for _, k := range kinds {
		for _, a := range edges {
			for _, b := range edges {
				want, right := reckon(k.op, a, b)
				v, ok := word.Do(k.op, a, b)
				if v != want || ok != right {
					t.Fatalf("%s of %d, %d: %d, %v, want %d, %v", k.name, a, b, v, ok, want, right)
				}
				if w, _ := word.Do(k.op, b, a); k.swaps && w != v {
					t.Fatalf("%s of %d, %d doesn't swap", k.name, a, b)
				}
				if k.truth && v != 0 && v != 1 {
					t.Fatalf("%s of %d, %d is no truth: %d", k.name, a, b, v)
				}
			}
		}
	}
}

// TestSwapsJust: an op that doesn't swap differs the other way round somewhere.
func TestSwapsJust(t *testing.T) {
	for _, k := range kinds {
		same := true
		for _, a := range edges {
			for _, b := range edges {
				v, ok := word.Do(k.op, a, b)
				w, back := word.Do(k.op, b, a)
				same = same && v == w && ok == back
			}
		}
		if same != k.swaps {
			t.Errorf("%s: the same the other way round: %v", k.name, same)
		}
	}
}

// reckon is an op by numbers without bounds, cut down to a word at last.
func reckon(o word.Op, a, b int64) (int64, bool) {
	x, y, z := big.NewInt(a), big.NewInt(b), new(big.Int)
	by := uint(new(big.Int).And(y, big.NewInt(63)).Uint64())
	switch o {
	case word.Add:
		z.Add(x, y)
	case word.Sub:
		z.Sub(x, y)
	case word.Mul:
		z.Mul(x, y)
	case word.Div, word.Mod:
		if b == 0 {
			return 0, false
		}
		rest := new(big.Int)
		z.QuoRem(x, y, rest)
		if o == word.Mod {
			z = rest
		}
	case word.And:
		z.And(x, y)
	case word.Or:
		z.Or(x, y)
	case word.Xor:
		z.Xor(x, y)
	case word.Shl:
		z.Lsh(x, by)
	case word.Shr:
		z.Rsh(x, by)
	default:
		return compare(o, x, y), true
	}
	return cut(z), true
}

func compare(o word.Op, x, y *big.Int) int64 {
	c := x.Cmp(y)
	if o == word.Below {
		c = unsigned(x).Cmp(unsigned(y))
	}
	if o == word.Eq && c == 0 || o == word.Ne && c != 0 || o == word.Le && c <= 0 || (o == word.Lt || o == word.Below) && c < 0 {
		return 1
	}
	return 0
}

// unsigned is a number modulo 2^64.
func unsigned(x *big.Int) *big.Int {
	whole := new(big.Int).Lsh(big.NewInt(1), 64)
	return new(big.Int).Mod(x, whole)
}

// cut is a number modulo 2^64, with sign.
func cut(x *big.Int) int64 {
	u := unsigned(x)
	if u.Bit(63) == 1 {
		u.Sub(u, new(big.Int).Lsh(big.NewInt(1), 64))
	}
	return u.Int64()
}
