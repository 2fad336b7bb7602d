package fold

import (
	"palings/ssa"
	"palings/word"
)

// work is a function, its values numbered from 1 on, that is made smaller. Each value, and each block's end, waits to be looked at, and waits again when something that it hangs on has turned, so that what hasn't turned costs no time. What is done in blocks that can't be come to any more, before that is noticed, does no harm: nobody else asks for their values but on ways that are lost then.
type work struct {
	*sames
	*ways
	f     ssa.Func
	made  []place     // of each value
	tried []tried     // of each value, if it is a parameter
	alike map[sum]int // the first value of a block that is made so
	ends  int         // the number of the first block's end among what waits; values have those ahead
	list  []int       // what waits, the next one last
	waits []bool
}

// tried is two of the ways to a parameter's block: on all those ahead of one it is itself, on all others ahead of other it is itself or what it is on one. Ways that are lost don't count. What is so once stays so, for values that are one stay one, so nobody must begin from the first way again.
type tried struct {
	one   int
	other int
}

// sum is how a value is made in a block, where it hangs on nothing else: two that are made so are one. It is a Const's number, or a Bin's op and the kinds of its sides.
type sum struct {
	block int
	num   int64
	bin   word.Op
	a, b  int
}

func newWork(f ssa.Func, most int) *work {
	w := &work{sames: newSames(most), ways: newWays(f), f: f, alike: map[sum]int{}, ends: most + 1}
	w.made, w.tried = make([]place, most+1), make([]tried, most+1)
	made(f, func(v int, p place) {
		w.made[v] = p
		w.uses(v, v)
	})
	for b, block := range f.Blocks {
		w.usedBy(b, block)
	}
	w.waits = make([]bool, w.ends+len(f.Blocks))
	for x := len(w.waits) - 1; x > 0; x-- {
		w.ask(x)
	}
	return w
}

// usedBy notes who asks for which values in a block, as far as a rule says something of who asks.
func (w *work) usedBy(b int, block ssa.Block) {
	for _, i := range block.Ins {
		if i.Op == ssa.Bin {
			w.uses(i.Args[0], i.Dst)
			w.uses(i.Args[1], i.Dst)
		}
	}
	if block.End.Kind == ssa.Branch {
		w.uses(block.End.Val, w.ends+b)
	}
	for _, way := range block.End.Ways {
		for k, v := range way.Args {
			w.uses(v, w.f.Blocks[way.To].Params[k])
		}
	}
}

func (w *work) ask(list ...int) {
	for _, x := range list {
		if !w.waits[x] {
			w.waits[x] = true
			w.list = append(w.list, x)
		}
	}
}

// untilNothingTurns leaves blocks that only come to one another to the end, when nothing else is to be done, for to find them it goes through all.
func (w *work) untilNothingTurns() {
	for len(w.list) > 0 {
		for len(w.list) > 0 {
			x := w.list[len(w.list)-1]
			w.list = w.list[:len(w.list)-1]
			w.waits[x] = false
			w.look(x)
		}
		for b, can := range w.f.Reach() {
			if !can {
				w.lose(w.askParams, w.outs[b]...)
			}
		}
	}
}

func (w *work) askParams(b int) { w.ask(w.f.Blocks[b].Params...) }

func (w *work) look(x int) {
	if x >= w.ends {
		w.lookAtEnd(x - w.ends)
		return
	}
	if w.now(x) != x {
		return
	}
	p := w.made[x]
	if p.at < 0 {
		w.lookAtParam(x, p)
		return
	}
	i := &w.f.Blocks[p.block].Ins[p.at]
	switch {
	case i.Op == ssa.Const:
		w.unite(x, sum{block: p.block, num: i.Num})
	case i.Op == ssa.Bin && !i.Bin.Divides():
		w.lookAtBin(p.block, i)
	}
}

// constant is a value's number, if it is a Const by now.
func (w *work) constant(v int) (int64, bool) {
	p := w.made[w.now(v)]
	if p.at < 0 {
		return 0, false
	}
	i := w.f.Blocks[p.block].Ins[p.at]
	return i.Num, i.Op == ssa.Const
}

// let says that x is y. Who asks for x has something new to see, if it is a Const by that.
func (w *work) let(x, y int) {
	if w.kind(x) == w.kind(y) {
		return
	}
	_, was := w.constant(x)
	if _, is := w.constant(y); is && !was {
		w.ask(w.users[w.kind(x)]...)
	}
	w.ask(w.join(x, y)...)
}
