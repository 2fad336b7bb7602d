package run

import (
	"palings/api"
	"palings/word"
)

// runner follows a plan.
type runner struct {
	plan
	next   int     // the order that comes next
	pile   []int64 // of each call its words, and behind them what it is about to use
	calls  []call  // those that are within each other
	fuel   int
	result Result
	fault  api.Errno
	ended  bool
}

// call is where its words begin on the pile, and where the one around it goes on.
type call struct {
	base int
	back int
}

func (r *runner) follow() {
	o := r.orders[r.next]
	r.next++
	switch o.deed {
	case takeStep:
		r.step()
	case layNumber:
		r.lay(o.n)
	case getLocal:
		r.lay(r.pile[r.place(o.n)])
	case setLocal:
		r.set(o.n, r.pick())
	case getWord:
		r.lay(r.result.Mem[o.n][0])
	case setWord:
		r.result.Mem[o.n][0] = r.pick()
	case getItem:
		r.get(r.result.Mem[o.n])
	case putItem:
		r.put(r.result.Mem[o.n])
	case doOp:
		r.both(word.Op(o.n))
	case doNot:
		r.lay(1 - r.pick())
	case drop:
		r.pick()
	case callIn:
		r.enter(int(o.n))
	case comeBack:
		r.leave()
	default:
		r.turn(o)
	}
}

// turn follows an order that says where to go on.
func (r *runner) turn(o order) {
	switch o.deed {
	case jump:
		r.next = int(o.n)
	case jumpUnless:
		if !r.which(r.pick() != 0) {
			r.next = int(o.n)
		}
	case leaveIfNot, leaveIfSo:
		truth := r.pick()
		if r.which(truth != 0) == (o.deed == leaveIfSo) {
			r.lay(truth)
			r.next = int(o.n)
		}
	}
}

func (r *runner) lay(v int64) { r.pile = append(r.pile, v) }

func (r *runner) pick() int64 {
	last := len(r.pile) - 1
	v := r.pile[last]
	r.pile = r.pile[:last]
	return v
}

// place is where on the pile a word of the innermost call lies.
func (r *runner) place(n int64) int {
	return r.calls[len(r.calls)-1].base + int(n)
}

func (r *runner) set(n, v int64) { r.pile[r.place(n)] = v }

func (r *runner) step() {
	if r.result.Steps >= r.fuel {
		r.fail()
		return
	}
	r.result.Steps++
}

// fail is of a run that doesn't end within its bounds.
func (r *runner) fail() { r.fault, r.ended = api.ErrSteps, true }

func (r *runner) trap(t api.Trap) { r.result.Trap, r.ended = t, true }

func (r *runner) leak(k api.Kind, a, b int64) {
	r.result.Leaks = append(r.result.Leaks, api.Leak{Kind: k, A: a, B: b})
}

// which lets it be known whether something is so.
func (r *runner) which(so bool) bool {
	r.leak(api.LeakBranch, word.Bool(so), 0)
	return so
}

// both does an op to what was reckoned last, and to what was ahead of that.
func (r *runner) both(o word.Op) {
	b := r.pick()
	a := r.pick()
	if o.Divides() {
		if !r.which(b != 0) {
			r.trap(api.Zero)
			return
		}
		r.leak(api.LeakDiv, a, b)
	}
	v, _ := word.Do(o, a, b)
	r.lay(v)
}

func (r *runner) get(words []int64) {
	i := r.pick()
	if r.within(words, i) {
		r.lay(words[i])
	}
}

func (r *runner) put(words []int64) {
	v := r.pick()
	i := r.pick()
	if r.within(words, i) {
		words[i] = v
	}
}

// within tells whether there is such an index, and traps, if there is none.
func (r *runner) within(words []int64, i int64) bool {
	if !r.which(uint64(i) < uint64(len(words))) {
		r.trap(api.Bounds)
		return false
	}
	r.leak(api.LeakIndex, i, 0)
	return true
}

// enter begins a call, whose Params lie on the pile: the rest of its words comes behind them.
func (r *runner) enter(function int) {
	if len(r.calls) >= MostDeep {
		r.fail()
		return
	}
	b := r.bodies[function]
	r.calls = append(r.calls, call{base: len(r.pile) - b.params, back: r.next})
	r.result.Deep = max(r.result.Deep, len(r.calls))
	r.pile = append(r.pile, make([]int64, b.words-b.params)...)
	r.next = b.start
}

// leave ends a call with its value, which main tells to whoever ran the program.
func (r *runner) leave() {
	v := r.pick()
	last := len(r.calls) - 1
	c := r.calls[last]
	r.calls, r.pile, r.next = r.calls[:last], r.pile[:c.base], c.back
	if last == 0 {
		r.result.Val, r.ended = v, true
		return
	}
	r.lay(v)
}
