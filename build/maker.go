package build

import (
	"palings/api"
	"palings/ast"
	"palings/check"
	"palings/ssa"
)

// maker lays the blocks of a function of a program without a fault: it asks nothing again that layer 5 has asked.
type maker struct {
	globals []ast.Global
	info    check.Info
	names
	blocks []ssa.Block
	here   int               // the block that is laid; none: nothing comes here
	last   int               // the greatest value that is made
	traps  [api.Zero + 1]int // the block of each trap; 0: there is none yet
}

const none = -1

func (m *maker) comes() bool { return m.here != none }

// begin begins a block, and tells which one it is.
func (m *maker) begin() int {
	m.here = len(m.blocks)
	m.blocks = append(m.blocks, ssa.Block{})
	return m.here
}

func (m *maker) fresh() int {
	m.last++
	return m.last
}

// param gives a block one more parameter, and tells its value.
func (m *maker) param(block int) int {
	v := m.fresh()
	b := &m.blocks[block]
	b.Params = append(b.Params, v)
	return v
}

// add lays an instruction of these values, a list of its own.
func (m *maker) add(i ssa.Ins, args ...int) {
	i.Args = args
	b := &m.blocks[m.here]
	b.Ins = append(b.Ins, i)
}

// value lays an instruction that makes a value of these, and tells that.
func (m *maker) value(i ssa.Ins, args ...int) int {
	i.Dst = m.fresh()
	m.add(i, args...)
	return i.Dst
}

func (m *maker) number(n int64) int { return m.value(ssa.Ins{Op: ssa.Const, Num: n}) }

// end ends the block that is laid.
func (m *maker) end(e ssa.End) {
	m.blocks[m.here].End = e
	m.here = none
}

func (m *maker) leave(v int) { m.end(ssa.End{Kind: ssa.Return, Val: v}) }

// must lays that there is a trap, if a truth isn't so. All that come to the same one in a function come to one block.
func (m *maker) must(truth int, t api.Trap) {
	unless := m.fork(truth, ifSo)
	if m.traps[t] == 0 {
		m.traps[t] = len(m.blocks)
		m.blocks = append(m.blocks, ssa.Block{End: ssa.End{Kind: ssa.Trap, Trap: t}})
	}
	m.lead(unless, m.traps[t])
}
