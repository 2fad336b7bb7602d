package cut

import "math/bits"

const none = -1

const wordBits = 64

// set is places, a bit of a word each.
type set []uint64

// sets is so many sets of no places, as pieces of one list, none of which can run into the next one.
func sets(count, places int) []set {
	size := (places + wordBits - 1) / wordBits
	all, out := make(set, count*size), make([]set, count)
	for k := range out {
		out[k] = all[k*size : (k+1)*size : (k+1)*size]
	}
	return out
}

func (s set) add(places ...int) {
	for _, p := range places {
		s[p/wordBits] |= 1 << (p % wordBits)
	}
}

func (s set) drop(places ...int) {
	for _, p := range places {
		s[p/wordBits] &^= 1 << (p % wordBits)
	}
}

func (s set) has(p int) bool { return s[p/wordBits]>>(p%wordBits)&1 == 1 }

// first is the least place that is in both sets.
func (s set) first(o set) int {
	for k, w := range s {
		if both := w & o[k]; both != 0 {
			return k*wordBits + bits.TrailingZeros64(both)
		}
	}
	return none
}

// list is the places, rising.
func (s set) list() []int {
	var out []int
	for k, w := range s {
		for ; w != 0; w &= w - 1 {
			out = append(out, k*wordBits+bits.TrailingZeros64(w))
		}
	}
	return out
}
