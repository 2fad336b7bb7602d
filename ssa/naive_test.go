package ssa_test

import (
	"palings/api"
	"palings/ast"
	"palings/ssa"
	"palings/word"
)

// expected reads the chapter sentence by sentence, on programs whose numbers are small.
func expected(p ssa.Prog) bool {
	for _, a := range p.Arrays {
		if a.Size < 0 || a.Size > 4096 || a.Hold != ast.Own && a.Hold != ast.Open && a.Hold != ast.Closed {
			return false
		}
	}
	if p.Main < 0 || p.Main >= len(p.Funcs) || len(p.Funcs[p.Main].Blocks) == 0 || len(p.Funcs[p.Main].Blocks[0].Params) > 0 {
		return false
	}
	for _, f := range p.Funcs {
		if len(f.Blocks) == 0 || len(f.Blocks[0].Params) > 6 || !valuesApart(f) {
			return false
		}
	}
	for _, f := range p.Funcs {
		for _, b := range f.Blocks {
			for _, i := range b.Ins {
				if !instruction(p, i) {
					return false
				}
			}
			if !end(f, b.End) {
				return false
			}
		}
		if !madeAhead(f) {
			return false
		}
	}
	return true
}

func makes(i ssa.Ins) bool {
	return i.Op == ssa.Const || i.Op == ssa.Bin || i.Op == ssa.Get || i.Op == ssa.Load || i.Op == ssa.Call
}

func valuesApart(f ssa.Func) bool {
	times := map[int]int{}
	for _, b := range f.Blocks {
		for _, v := range b.Params {
			times[v]++
		}
		for _, i := range b.Ins {
			if makes(i) {
				times[i.Dst]++
			}
		}
	}
	for v, n := range times {
		if v < 1 || n > 1 {
			return false
		}
	}
	return true
}

func instruction(p ssa.Prog, i ssa.Ins) bool {
	if makes(i) != (i.Dst >= 1) || !makes(i) && i.Dst != 0 {
		return false
	}
	there := i.Arr >= 0 && i.Arr < len(p.Arrays)
	switch i.Op {
	case ssa.Const:
		return len(i.Args) == 0
	case ssa.Bin:
		return len(i.Args) == 2 && i.Bin >= word.Add && i.Bin <= word.Below
	case ssa.Get:
		return len(i.Args) == 0 && there && p.Arrays[i.Arr].Size == 0
	case ssa.Set:
		return len(i.Args) == 1 && there && p.Arrays[i.Arr].Size == 0
	case ssa.Load:
		return len(i.Args) == 1 && there && p.Arrays[i.Arr].Size != 0
	case ssa.Store:
		return len(i.Args) == 2 && there && p.Arrays[i.Arr].Size != 0
	case ssa.Call:
		return i.Fn >= 0 && i.Fn < len(p.Funcs) && len(i.Args) == len(p.Funcs[i.Fn].Blocks[0].Params)
	}
	return false
}

func end(f ssa.Func, e ssa.End) bool {
	ways, known := map[ssa.Ends]int{ssa.Jump: 1, ssa.Branch: 2, ssa.Return: 0, ssa.Trap: 0}[e.Kind]
	if !known || len(e.Ways) != ways {
		return false
	}
	if e.Kind == ssa.Branch || e.Kind == ssa.Return {
		if e.Val <= 0 {
			return false
		}
	} else if e.Val != 0 {
		return false
	}
	if (e.Trap == api.Bounds || e.Trap == api.Zero) != (e.Kind == ssa.Trap) {
		return false
	}
	for _, w := range e.Ways {
		if w.To < 1 || w.To >= len(f.Blocks) || len(w.Args) != len(f.Blocks[w.To].Params) {
			return false
		}
	}
	return true
}

// madeAhead goes all ways from the first block on, once for each value, and notes whether it is made by then.
func madeAhead(f ssa.Func) bool {
	values := map[int]bool{}
	for _, b := range f.Blocks {
		for _, i := range b.Ins {
			for _, v := range i.Args {
				values[v] = true
			}
		}
		values[b.End.Val] = true
		for _, w := range b.End.Ways {
			for _, v := range w.Args {
				values[v] = true
			}
		}
	}
	for v := range values {
		g := goer{f: f, v: v, been: map[state]bool{}}
		g.from(state{0, false})
		if g.wrong {
			return false
		}
	}
	return true
}

// state is a block that is come to, and whether the value is made by then.
type state struct {
	block int
	made  bool
}

type goer struct {
	f     ssa.Func
	v     int
	been  map[state]bool
	wrong bool
}

func (g *goer) from(s state) {
	if g.been[s] {
		return
	}
	g.been[s] = true
	b := g.f.Blocks[s.block]
	for _, v := range b.Params {
		s.made = s.made || v == g.v
	}
	for _, i := range b.Ins {
		g.use(i.Args, s)
		s.made = s.made || makes(i) && i.Dst == g.v
	}
	if b.End.Val != 0 {
		g.use([]int{b.End.Val}, s)
	}
	for _, w := range b.End.Ways {
		g.use(w.Args, s)
		g.from(state{w.To, s.made})
	}
}

func (g *goer) use(args []int, s state) {
	for _, v := range args {
		g.wrong = g.wrong || v == g.v && !s.made
	}
}
