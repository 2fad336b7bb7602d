package sim

import (
	"palings/api"
	"palings/ssa"
	"palings/word"
)

// runner runs functions whose values are dense.
type runner struct {
	funcs  []function
	calls  []call    // those that are within each other
	frames [][]int64 // for each of these, and those that were deeper, a list for its values
	moved  []int64
	fuel   int
	room   int // how many leaks it may keep
	lost   bool
	result Result
	fault  api.Errno
	ended  bool
}

// call is where it goes on, and what its values are.
type call struct {
	blocks []ssa.Block
	block  int
	next   int
	vals   []int64
}

func (r *runner) follow() {
	if r.result.Steps >= r.fuel {
		r.fail()
		return
	}
	r.result.Steps++
	c := &r.calls[len(r.calls)-1]
	b := &c.blocks[c.block]
	if c.next == len(b.Ins) {
		r.end(c, &b.End)
		return
	}
	i := &b.Ins[c.next]
	c.next++
	r.instruction(c, i)
}

// fail is of a run that doesn't end within its bounds.
func (r *runner) fail() { r.fault, r.ended = api.ErrSteps, true }

func (r *runner) trap(t api.Trap) { r.result.Trap, r.ended = t, true }

func (r *runner) leak(k api.Kind, a, b int64) {
	if len(r.result.Leaks) >= r.room {
		r.lost = true
		return
	}
	r.result.Leaks = append(r.result.Leaks, api.Leak{Kind: k, A: a, B: b})
}

func (r *runner) instruction(c *call, i *ssa.Ins) {
	switch i.Op {
	case ssa.Const:
		c.vals[i.Dst] = i.Num
	case ssa.Bin:
		r.both(c, i)
	case ssa.Get:
		c.vals[i.Dst] = r.result.Mem[i.Arr][0]
	case ssa.Set:
		r.result.Mem[i.Arr][0] = c.vals[i.Args[0]]
	case ssa.Load:
		if w := r.word(c, i); w != nil {
			c.vals[i.Dst] = *w
		}
	case ssa.Store:
		if w := r.word(c, i); w != nil {
			*w = c.vals[i.Args[1]]
		}
	case ssa.Call:
		r.enter(i.Fn, c.vals, i.Args)
	}
}

func (r *runner) both(c *call, i *ssa.Ins) {
	a, b := c.vals[i.Args[0]], c.vals[i.Args[1]]
	if i.Bin.Divides() {
		r.leak(api.LeakDiv, a, b)
	}
	v, ok := word.Do(i.Bin, a, b)
	if !ok {
		r.trap(api.Zero)
		return
	}
	c.vals[i.Dst] = v
}

// word is the word at an index; nil: there is none, and it traps.
func (r *runner) word(c *call, i *ssa.Ins) *int64 {
	words, at := r.result.Mem[i.Arr], c.vals[i.Args[0]]
	r.leak(api.LeakIndex, at, 0)
	if uint64(at) >= uint64(len(words)) {
		r.trap(api.Wild)
		return nil
	}
	return &words[at]
}

// enter begins a call with values of the one around it.
func (r *runner) enter(fn int, vals []int64, args []int) {
	if len(r.calls) >= MostDeep {
		r.fail()
		return
	}
	f := r.funcs[fn]
	own := r.frame(f.values)
	for param, v := range args {
		own[param] = vals[v]
	}
	r.calls = append(r.calls, call{blocks: f.blocks, vals: own})
	r.result.Deep = max(r.result.Deep, len(r.calls))
}

// frame is the next call's list. What an earlier call left there is never seen, for each value is made ahead of its uses.
func (r *runner) frame(values int) []int64 {
	deep := len(r.calls)
	if deep == len(r.frames) {
		r.frames = append(r.frames, nil)
	}
	if len(r.frames[deep]) < values {
		r.frames[deep] = make([]int64, values)
	}
	return r.frames[deep]
}

func (r *runner) end(c *call, e *ssa.End) {
	switch e.Kind {
	case ssa.Jump:
		r.goes(c, &e.Ways[0])
	case ssa.Branch:
		so := word.Bool(c.vals[e.Val] != 0)
		r.leak(api.LeakBranch, so, 0)
		r.goes(c, &e.Ways[1-so])
	case ssa.Return:
		r.leave(c.vals[e.Val])
	case ssa.Trap:
		r.trap(e.Trap)
	}
}

// goes takes all values ahead of turning one: a parameter may be handed on to another one of the same block.
func (r *runner) goes(c *call, w *ssa.Edge) {
	r.moved = r.moved[:0]
	for _, v := range w.Args {
		r.moved = append(r.moved, c.vals[v])
	}
	c.block, c.next = w.To, 0
	for k, param := range c.blocks[w.To].Params {
		c.vals[param] = r.moved[k]
	}
}

// leave ends a call with its value, which main tells to whoever ran the program.
func (r *runner) leave(v int64) {
	last := len(r.calls) - 1
	r.calls = r.calls[:last]
	if last == 0 {
		r.result.Val, r.ended = v, true
		return
	}
	c := &r.calls[last-1]
	c.vals[c.blocks[c.block].Ins[c.next-1].Dst] = v
}
