package dom

// walk is the places that can be come to, numbered as they are first met, when from each one it is gone on as deep as can be first.
type walk struct {
	number []int   // of each place; none: it isn't met
	parent []int   // of each number, from which one it was met
	ins    [][]int // of each number, from which ones ways come to it
}

func walked(outs [][]int) *walk {
	w := &walk{number: make([]int, len(outs))}
	for place := range w.number {
		w.number[place] = none
	}
	w.meet(0, 0)
	path, tried := []int{0}, make([]int, len(outs))
	for len(path) > 0 {
		from := path[len(path)-1]
		if tried[from] == len(outs[from]) {
			path = path[:len(path)-1]
			continue
		}
		to := outs[from][tried[from]]
		tried[from]++
		if to >= 0 && to < len(outs) && w.goes(from, to) {
			path = append(path, to)
		}
	}
	return w
}

func (w *walk) meet(place, parent int) {
	w.number[place] = len(w.parent)
	w.parent = append(w.parent, parent)
	w.ins = append(w.ins, nil)
}

// goes notes a way, and tells whether its end is met by it.
func (w *walk) goes(from, to int) bool {
	isNew := w.number[to] == none
	if isNew {
		w.meet(to, w.number[from])
	}
	v := w.number[to]
	w.ins[v] = append(w.ins[v], w.number[from])
	return isNew
}
