package cut

// endless is more than all places of a net let through.
const endless = MaxNodes*MaxWeight + 1

// What flows through a place comes in at its front, and goes on from its back.
const (
	front = iota
	back
)

// flow is what flows through a net, more and more, by Dinic's method. A step leads from one side of a place to the other side of one: from its front to its own back, as long as its weight lets more through; from its back to the front of one that a way goes to, without end; and the other way round, as long as something flows that can be sent back.
type flow struct {
	net     Net
	ends    set
	through []int64          // how much flows through each place
	along   map[[2]int]int64 // and along each way
	others  [2][]set         // from each side of each place, to which other places steps lead
	fresh   [2]set           // the places to which, at each side, no steps lead
	rows    []set            // the places to which so many steps lead, and no fewer, but those from which no more flows on
}

func newFlow(n Net) *flow {
	places := len(n.Weights)
	return &flow{
		net:     n,
		ends:    n.set(n.To),
		through: make([]int64, places),
		along:   map[[2]int]int64{},
		others:  [2][]set{front: sets(places, places), back: n.ways()},
	}
}

// fill lets flow as much as can.
func (f *flow) fill() {
	for f.reach() {
		for _, p := range f.rows[0].list() {
			f.push(0, p, endless)
		}
	}
}

// reach lays the rows, until an end is among one, and tells whether it is.
func (f *flow) reach() bool {
	f.fresh = [2]set{f.net.all(), f.net.all()}
	f.fresh[front].drop(f.net.From...)
	f.rows = nil
	row := f.net.set(f.net.From)
	for side := front; row.first(row) != none; side = 1 - side {
		f.rows = append(f.rows, row)
		if side == back && row.first(f.ends) != none {
			return true
		}
		row = f.beyond(side, row)
	}
	return false
}

// beyond is the places to which a step leads from a row, but to which no fewer did.
func (f *flow) beyond(side int, row set) set {
	next, fresh := f.net.set(nil), f.fresh[1-side]
	for _, p := range row.list() {
		for q := f.step(side, p, fresh); q != none; q = f.step(side, p, fresh) {
			fresh.drop(q)
			next.add(q)
		}
	}
	return next
}

// step is one of some places to which a step leads from a side of p.
func (f *flow) step(side, p int, among set) int {
	if among.has(p) && f.room(side, p, p) > 0 {
		return p
	}
	return f.others[side][p].first(among)
}

// room is how much more a step from a side of p to the other side of q lets flow.
func (f *flow) room(side, p, q int) int64 {
	switch {
	case p == q && side == front:
		return f.net.Weights[p] - f.through[p]
	case p == q:
		return f.through[p]
	case side == front:
		return f.along[[2]int{q, p}]
	}
	return endless
}

// let lets so much flow by a step from a side of p to the other side of q.
func (f *flow) let(side, p, q int, much int64) {
	switch {
	case p == q && side == front:
		f.through[p] += much
	case p == q:
		f.through[p] -= much
	case side == front:
		f.carry([2]int{q, p}, -much)
	default:
		f.carry([2]int{p, q}, much)
	}
}

// carry lets so much more flow along a way, by which a step leads back as long as something flows.
func (f *flow) carry(way [2]int, much int64) {
	f.along[way] += much
	if f.along[way] > 0 {
		f.others[front][way[1]].add(way[0])
	} else {
		f.others[front][way[1]].drop(way[0])
	}
}

// push lets as much flow from a place of a row, by the rows behind it, as can, but no more than most, and tells how much that is.
func (f *flow) push(row, p int, most int64) int64 {
	if row == len(f.rows)-1 {
		if f.ends.has(p) {
			return most
		}
		return 0
	}
	sum, side, next := int64(0), row%2, f.rows[row+1]
	for sum < most {
		q := f.step(side, p, next)
		if q == none {
			break
		}
		asked := min(most-sum, f.room(side, p, q))
		much := f.push(row+1, q, asked)
		if much < asked {
			next.drop(q)
		}
		f.let(side, p, q, much)
		sum += much
	}
	return sum
}

// edge is the places to whose fronts steps lead, but not to their backs.
func (f *flow) edge() []int {
	var out []int
	for p := range f.net.Weights {
		if !f.fresh[front].has(p) && f.fresh[back].has(p) {
			out = append(out, p)
		}
	}
	return out
}
