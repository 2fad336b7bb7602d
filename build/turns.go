package build

import (
	"maps"
	"slices"

	"palings/ast"
)

// turns goes beside a statement: a loop's first block has parameters for what is turned only behind it, so that must be known ahead.
type turns struct {
	names []string // of a While those that it turns on a way that comes back, sorted
	then  []turns
	other []turns
}

// set is names.
type set map[string]struct{}

// turnsOf is what goes beside the statements of a block, as far as they can be come to, and which names it turns, of those that are known around it, on ways that come to its end; false: none does.
func turnsOf(list []ast.Stmt) ([]turns, set, bool) {
	out, all := make([]turns, len(list)), set{}
	for i, s := range list {
		turned, comes := out[i].of(s)
		if !comes {
			return out, nil, false
		}
		all = union(all, turned)
	}
	for _, s := range list {
		if s.Does == ast.Let {
			delete(all, s.Name)
		}
	}
	return out, all, true
}

func (t *turns) of(s ast.Stmt) (set, bool) {
	switch s.Does {
	case ast.Set:
		return set{s.Name: {}}, true
	case ast.If:
		then, yes, comes := turnsOf(s.Then)
		other, no, too := turnsOf(s.Else)
		t.then, t.other = then, other
		return union(yes, no), comes || too
	case ast.While:
		then, turned, _ := turnsOf(s.Then)
		t.then, t.names = then, slices.Sorted(maps.Keys(turned))
		return turned, true
	}
	return nil, s.Does != ast.Return
}

// union lays the smaller set into the greater one, so that a nest costs little more than what it turns.
func union(a, b set) set {
	if len(a) < len(b) {
		a, b = b, a
	}
	maps.Copy(a, b)
	return a
}
