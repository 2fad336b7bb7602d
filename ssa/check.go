package ssa

import (
	"palings/api"
	"palings/ast"
)

// Check tells whether a program is right.
func (p Prog) Check() api.Errno {
	for _, a := range p.Arrays {
		if !a.right() {
			return api.ErrBad
		}
	}
	for _, f := range p.Funcs {
		if !p.functionRight(f) {
			return api.ErrBad
		}
	}
	if !p.has(p.Main) || len(p.Funcs[p.Main].Params()) > 0 {
		return api.ErrBad
	}
	return api.OK
}

func (a Array) right() bool {
	return a.Size >= 0 && a.Size <= api.MaxArray && a.Hold >= ast.Own && a.Hold <= ast.Closed
}

func (p Prog) has(fn int) bool { return fn >= 0 && fn < len(p.Funcs) }

// functionRight asks for the uses last: they can be told apart only where the ways go as they may.
func (p Prog) functionRight(f Func) bool {
	if len(f.Blocks) == 0 || len(f.Blocks[0].Params) > api.MaxParams {
		return false
	}
	made, right := f.made()
	if !right {
		return false
	}
	for _, b := range f.Blocks {
		for _, i := range b.Ins {
			if !p.instructionRight(i) {
				return false
			}
		}
		if !f.endRight(b.End) {
			return false
		}
	}
	return f.usesRight(made)
}

// instructionRight leaves a Dst of an instruction that makes a value to made.
func (p Prog) instructionRight(i Ins) bool {
	args, right := p.takes(i)
	return right && len(i.Args) == args && (i.makes() || i.Dst == 0)
}

// takes is how many values an instruction needs; false: it is none, or is about something that isn't there.
func (p Prog) takes(i Ins) (int, bool) {
	switch i.Op {
	case Const:
		return 0, true
	case Bin:
		return 2, i.Bin.Known()
	case Get:
		return 0, p.isWord(i.Arr)
	case Set:
		return 1, p.isWord(i.Arr)
	case Load:
		return 1, p.isList(i.Arr)
	case Store:
		return 2, p.isList(i.Arr)
	case Call:
		if p.has(i.Fn) && len(p.Funcs[i.Fn].Blocks) > 0 {
			return len(p.Funcs[i.Fn].Blocks[0].Params), true
		}
	}
	return 0, false
}

func (p Prog) isArray(a int) bool { return a >= 0 && a < len(p.Arrays) }

func (p Prog) isWord(a int) bool { return p.isArray(a) && p.Arrays[a].Size == 0 }

func (p Prog) isList(a int) bool { return p.isArray(a) && p.Arrays[a].Size != 0 }

func (f Func) endRight(e End) bool {
	ways, hasVal := 0, false
	switch e.Kind {
	case Jump:
		ways = 1
	case Branch:
		ways, hasVal = 2, true
	case Return:
		hasVal = true
	case Trap:
	default:
		return false
	}
	trap := e.Trap == api.Bounds || e.Trap == api.Zero
	if len(e.Ways) != ways || trap != (e.Kind == Trap) || hasVal != (e.Val > 0) || e.Val < 0 {
		return false
	}
	for _, w := range e.Ways {
		if w.To <= 0 || w.To >= len(f.Blocks) || len(w.Args) != len(f.Blocks[w.To].Params) {
			return false
		}
	}
	return true
}
