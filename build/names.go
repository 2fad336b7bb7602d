package build

import (
	"maps"
	"slices"

	"palings/ast"
)

// names is what the names of a call are, as far as they are known where it is laid.
type names struct {
	vals map[string]int
	past []was // of all that was turned, so that it can be gone back to what was ahead of it
}

// was is a name that was turned, and its value ahead of that; 0: it wasn't known.
type was struct {
	name string
	val  int
}

func (n *names) turn(name string, v int) {
	n.past = append(n.past, was{name, n.vals[name]})
	n.vals[name] = v
}

// forget takes away the names that were let in a block.
func (n *names) forget(block []ast.Stmt) {
	for _, s := range block {
		if s.Does == ast.Let {
			delete(n.vals, s.Name)
		}
	}
}

// known is those of a list that are known.
func (n *names) known(list []string) []string {
	var out []string
	for _, name := range list {
		if _, ok := n.vals[name]; ok {
			out = append(out, name)
		}
	}
	return out
}

// values is what names are that are known.
func (n *names) values(list []string) []int {
	var out []int
	for _, name := range list {
		out = append(out, n.vals[name])
	}
	return out
}

// now is a time that can be gone back to.
func (n *names) now() int { return len(n.past) }

// back lets all names be what they were then, and tells what those had become by now that were turned since, and are known still.
func (n *names) back(then int) map[string]int {
	turned := map[string]int{}
	for _, w := range n.past[then:] {
		if v, ok := n.vals[w.name]; ok {
			turned[w.name] = v
		}
	}
	for i := len(n.past) - 1; i >= then; i-- {
		w := n.past[i]
		n.vals[w.name] = w.val
		if w.val == 0 {
			delete(n.vals, w.name)
		}
	}
	n.past = n.past[:then]
	return turned
}

// side is where one way of a choice ends, and what the names are there that were turned on it.
type side struct {
	way
	turned map[string]int
}

// turnedOn is the names that are turned on any of the sides, sorted, for the blocks mustn't hang on a map's order.
func turnedOn(sides ...side) []string {
	all := map[string]int{}
	for _, s := range sides {
		maps.Copy(all, s.turned)
	}
	return slices.Sorted(maps.Keys(all))
}

// valuesOn is what names are at a side's end.
func (n *names) valuesOn(s side, list []string) []int {
	out := n.values(list)
	for i, name := range list {
		if v, ok := s.turned[name]; ok {
			out[i] = v
		}
	}
	return out
}
