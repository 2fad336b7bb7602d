package ssa

// place is where in a function a value is made or used: at which instruction of a block.
type place struct {
	block int
	at    int
}

// asParam is ahead of all instructions of a block.
const asParam = -1

func (i Ins) makes() bool {
	switch i.Op {
	case Const, Bin, Get, Load, Call:
		return true
	}
	return false
}

// eachMade tells of each value where it is made, as often as it is.
func (f Func) eachMade(tell func(v int, here place)) {
	for b, block := range f.Blocks {
		for _, v := range block.Params {
			tell(v, place{b, asParam})
		}
		for at, i := range block.Ins {
			if i.makes() {
				tell(i.Dst, place{b, at})
			}
		}
	}
}

// made tells where each value is made; false: one has a wrong number, or is made twice.
func (f Func) made() (map[int]place, bool) {
	out, right := map[int]place{}, true
	f.eachMade(func(v int, here place) {
		_, twice := out[v]
		right = right && v >= 1 && !twice
		out[v] = here
	})
	return out, right
}
