package flow

import "palings/dom"

const none = -1

// loops finds which loops are in which. Two loops of unlike tops are apart, or one is in the other, so each block needs to know the nearest top alone; and a loop is come into by its top alone, so that from one that is found the way goes on at its top.
type loops struct {
	g     *Graph
	tree  dom.Tree
	outer []int // of each block the top of the nearest loop that it is in, but its own; none: it is in none
	far   []int // of each block one that stands for a loop around it that is found, nearer to the farthest one's top; itself: there is none
}

// Depths is in how many loops each block is: one of its top for the loop, and one for each around it.
func (g *Graph) Depths() []int {
	if g.Len() == 0 {
		return nil
	}
	l := &loops{g, dom.Of(g.outs), make([]int, g.Len()), make([]int, g.Len())}
	for b := range l.outer {
		l.outer[b], l.far[b] = none, b
	}
	order := g.Order()
	isTop := make([]bool, g.Len())
	for i := len(order) - 1; i >= 0; i-- {
		isTop[order[i]] = l.find(order[i])
	}
	depths := make([]int, g.Len())
	for _, b := range order {
		if l.outer[b] != none {
			depths[b] = depths[l.outer[b]]
		}
		if isTop[b] {
			depths[b]++
		}
	}
	return depths
}

// find lays all that is in a block's loop under it, and tells whether it is a top. It is asked of the tops within that one ahead of it.
func (l *loops) find(top int) bool {
	isTop := false
	var left []int
	for _, b := range l.g.ins[top] {
		if l.tree.Over(top, b) {
			isTop = true
			left = append(left, b)
		}
	}
	for len(left) > 0 {
		b := l.farthest(left[len(left)-1])
		left = left[:len(left)-1]
		if b == top {
			continue
		}
		l.outer[b], l.far[b] = top, top
		for _, from := range l.g.ins[b] {
			if l.tree.Over(top, from) {
				left = append(left, from)
			}
		}
	}
	return isTop
}

// farthest is the top of the farthest loop around a block that is found, or the block itself. It makes the way there shorter as it goes.
func (l *loops) farthest(b int) int {
	for l.far[b] != b {
		l.far[b] = l.far[l.far[b]]
		b = l.far[b]
	}
	return b
}
