package sim_test

import (
	"fmt"
	"math"
	"testing"

	"palings/api"
	"palings/word"
)

const (
	least = math.MinInt64
	most  = math.MaxInt64
)

// words is what ops and indexes are tried on.
var words = []int64{0, 1, -1, 2, -2, 3, 7, -7, 63, 64, 65, -64, 1 << 32, least, least + 1, most, most - 1}

func TestConst(t *testing.T) {
	for _, n := range words {
		do{what: "const", p: line(ret(1), num(1, n)), val: n, steps: 2}.try(t)
		do{what: "two consts", p: line(ret(1), num(1, n), num(2, 5)), val: n, steps: 3}.try(t)
	}
}

func TestGetAndSet(t *testing.T) {
	for _, n := range words {
		do{what: "get a", p: line(ret(1), get(1, wordA)), a: n, val: n, steps: 2}.try(t)
		do{what: "get b", p: line(ret(1), get(1, wordB)), a: 5, b: n, val: n, steps: 2}.try(t)
		do{what: "set b", p: line(ret(1), get(1, wordA), set(wordB, 1)), a: n, b: 5, val: n, steps: 3,
			mem: fmt.Sprintf("[[%d] [%d] [0 0 0]]", n, n)}.try(t)
	}
	do{what: "get, set, and get", p: line(ret(4), get(1, wordA), num(2, 8), set(wordA, 2), get(3, wordA), bin(4, word.Sub, 3, 1)), a: 5, val: 3, steps: 6,
		mem: "[[8] [0] [0 0 0]]"}.try(t)
	do{what: "change places", p: line(ret(1), get(1, wordA), get(2, wordB), set(wordA, 2), set(wordB, 1)), a: 5, b: 6, val: 5, steps: 5,
		mem: "[[6] [5] [0 0 0]]"}.try(t)
}

func TestBin(t *testing.T) {
	for o := word.Add; o <= word.Below; o++ {
		for _, a := range words {
			for _, b := range words {
				v, ok := word.Do(o, a, b)
				c := do{what: o.String(), p: line(ret(3), get(1, wordA), get(2, wordB), bin(3, o, 1, 2)), a: a, b: b, val: v, steps: 4}
				if o.Divides() {
					c.leaks = fmt.Sprintf("d%d,%d", a, b)
				}
				if !ok {
					c.trap, c.steps = api.Zero, 3
				}
				c.try(t)
			}
		}
	}
}

func TestDivisions(t *testing.T) {
	for _, c := range []do{
		{what: "-7 and 2", p: line(ret(3), get(1, wordA), get(2, wordB), bin(3, word.Div, 1, 2), bin(4, word.Mod, 1, 2)), a: -7, b: 2, val: -3, steps: 5, leaks: "d-7,2 d-7,2"},
		{what: "by 0, and by 1", p: line(ret(3), get(1, wordA), num(2, 1), bin(3, word.Div, 2, 1), bin(4, word.Div, 2, 2)), val: 0, trap: api.Zero, steps: 3, leaks: "d1,0"},
		{what: "by 1, and by 0", p: line(ret(3), get(1, wordA), num(2, 1), bin(3, word.Div, 2, 2), bin(4, word.Mod, 3, 1)), val: 0, trap: api.Zero, steps: 4, leaks: "d1,1 d1,0"},
		{what: "the least by -1", p: line(ret(3), get(1, wordA), num(2, -1), bin(3, word.Div, 1, 2)), a: least, val: least, steps: 4, leaks: fmt.Sprintf("d%d,-1", int64(least))},
		{what: "a set, and by 0", p: line(ret(3), num(1, 0), num(2, 4), set(wordB, 2), bin(3, word.Mod, 2, 1), set(wordB, 1)), b: 9, trap: api.Zero, steps: 4, leaks: "d4,0", mem: "[[0] [4] [0 0 0]]"},
	} {
		c.try(t)
	}
}

func TestIndexes(t *testing.T) {
	for _, at := range append(words, 4, 5, 1<<32+1, 1<<63-2, -3) {
		within := at >= 0 && at < 3
		loads := do{what: "load", p: line(ret(2), get(1, wordA), load(2, list, 1), set(wordB, 1)), a: at, steps: 4, leaks: fmt.Sprint("i", at),
			mem: fmt.Sprintf("[[%d] [%d] [0 0 0]]", at, at)}
		stores := do{what: "store", p: line(ret(2), get(1, wordA), num(2, 9), store(list, 1, 2), set(wordB, 1)), a: at, val: 9, steps: 5, leaks: fmt.Sprint("i", at)}
		if within {
			w := make([]int64, 3)
			w[at] = 9
			stores.mem = fmt.Sprintf("[[%d] [%d] %v]", at, at, w)
		} else {
			loads.trap, loads.steps, loads.mem = api.Wild, 2, ""
			stores.val, stores.trap, stores.steps = 0, api.Wild, 3
		}
		loads.try(t)
		stores.try(t)
	}
}

func TestLoadsAndStores(t *testing.T) {
	for _, c := range []do{
		{what: "store and load", p: line(ret(3), num(1, 2), num(2, 7), store(list, 1, 2), load(3, list, 1)), val: 7, steps: 5, leaks: "i2 i2", mem: "[[0] [0] [0 0 7]]"},
		{what: "a load ahead of a store", p: line(ret(3), num(1, 2), load(3, list, 1), store(list, 1, 1)), val: 0, steps: 4, leaks: "i2 i2", mem: "[[0] [0] [0 0 2]]"},
		{what: "two stores", p: line(ret(1), num(1, 0), num(2, 7), num(3, 1), store(list, 1, 2), store(list, 3, 1), store(list, 1, 3)), val: 0, steps: 7, leaks: "i0 i1 i0", mem: "[[0] [0] [1 0 0]]"},
		{what: "the index's place is told, not the value's", p: line(ret(2), get(1, wordA), num(2, 1), store(list, 2, 1)), a: 44, val: 1, steps: 4, leaks: "i1", mem: "[[44] [0] [0 44 0]]"},
		{what: "a wild store behind another", p: line(ret(1), num(1, 2), num(2, 3), store(list, 1, 2), store(list, 2, 1)), trap: api.Wild, steps: 4, leaks: "i2 i3", mem: "[[0] [0] [0 0 3]]"},
		{what: "an index that was loaded", p: line(ret(3), num(1, 2), store(list, 1, 1), load(2, list, 1), load(3, list, 2)), val: 2, steps: 5, leaks: "i2 i2 i2", mem: "[[0] [0] [0 0 2]]"},
	} {
		c.try(t)
	}
}

// Lists of each length have a last word, and none behind it.
func TestLastIndex(t *testing.T) {
	for _, size := range []int{1, 2, 64, 4095, 4096} {
		for at, ok := range map[int64]bool{0: true, int64(size) - 1: true, int64(size): false, -1: false} {
			loads := line(ret(2), get(1, wordA), load(2, list, 1))
			stores := line(ret(2), get(1, wordA), num(2, 6), store(list, 1, 2))
			loads.Arrays[list].Size, stores.Arrays[list].Size = size, size
			tryIndex(t, loads, at, ok, 0)
			tryIndex(t, stores, at, ok, 6)
		}
	}
}

func TestCalls(t *testing.T) {
	give := fn("give", block(params(1), ret(1)))
	five := fn("five", block(nil, ret(9), num(9, 5)))
	less := fn("less", block(params(4, 3), ret(5), bin(5, word.Sub, 4, 3)))
	six := fn("six", block(params(1, 2, 3, 4, 5, 6), ret(15), bin(11, word.Sub, 1, 2), bin(12, word.Mul, 11, 3), bin(13, word.Sub, 12, 4), bin(14, word.Mul, 13, 5), bin(15, word.Sub, 14, 6)))
	parts := fn("parts", block(params(1), ret(3), num(2, 10), bin(3, word.Div, 2, 1)))
	sets := fn("sets", block(params(1), ret(1), set(wordB, 1)))
	for _, c := range []do{
		{what: "give", p: around(fn("main", block(nil, ret(2), get(1, wordA), call(2, 1, 1))), give), a: 8, val: 8, steps: 4},
		{what: "five", p: around(fn("main", block(nil, ret(2), call(2, 1))), five), val: 5, steps: 4},
		{what: "less", p: around(fn("main", block(nil, ret(3), num(1, 9), num(2, 4), call(3, 1, 1, 2))), less), val: 5, steps: 6},
		{what: "less, the other way round", p: around(fn("main", block(nil, ret(3), num(1, 9), num(2, 4), call(3, 1, 2, 1))), less), val: -5, steps: 6},
		{what: "less of one value", p: around(fn("main", block(nil, ret(3), num(1, 9), num(2, 4), call(3, 1, 2, 2))), less), val: 0, steps: 6},
		{what: "six", p: around(fn("main", block(nil, ret(7), num(1, 9), num(2, 2), num(3, 3), num(4, 1), num(5, 5), num(6, 4), call(7, 1, 1, 2, 3, 4, 5, 6))), six), val: 96, steps: 14},
		{what: "a call's value, called with", p: around(fn("main", block(nil, ret(4), num(1, 9), call(2, 1, 1), call(3, 2), call(4, 3, 2, 3))), give, five, less), val: 4, steps: 10},
		{what: "values of both are apart", p: around(fn("main", block(nil, ret(6), num(4, 9), num(3, 4), num(5, 7), call(1, 1, 4, 3), bin(2, word.Mul, 1, 5), bin(6, word.Add, 2, 3))), less), val: 39, steps: 9},
		{what: "parts", p: around(fn("main", block(nil, ret(4), num(1, 5), num(2, 3), call(3, 1, 1), call(4, 1, 2))), parts), val: 3, steps: 11, leaks: "d10,5 d10,3"},
		{what: "a trap within a call", p: around(fn("main", block(nil, ret(4), num(1, 0), num(2, 3), call(4, 1, 2), call(3, 1, 1), set(wordA, 2))), parts), a: 6, trap: api.Zero, steps: 9, leaks: "d10,3 d10,0"},
		{what: "a set within a call", p: around(fn("main", block(nil, ret(3), num(1, 6), call(2, 1, 1), get(3, wordB))), sets), b: 4, val: 6, steps: 6, mem: "[[0] [6] [0 0 0]]"},
	} {
		c.try(t)
	}
}
