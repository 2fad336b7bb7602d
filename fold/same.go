package fold

// sames knows which values are one by now, and who asks for them. Of two kinds of values that become one the one that fewer ask for joins the other, so that nobody is asked to look again too often.
type sames struct {
	up    []int   // of each value one that stands for it, nearer to the one that stands for all that are one with it; itself: it is that
	stays []int   // of the one that stands for all, which of them stays
	users [][]int // of the one that stands for all, who asks for any of them
}

func newSames(most int) *sames {
	s := &sames{make([]int, most+1), make([]int, most+1), make([][]int, most+1)}
	for v := range s.up {
		s.up[v], s.stays[v] = v, v
	}
	return s
}

// kind is the value that stands for all that are one with v. The way there is short, as each step of it at least doubles who asks.
func (s *sames) kind(v int) int {
	for s.up[v] != v {
		v = s.up[v]
	}
	return v
}

// now is the value that v is by now.
func (s *sames) now(v int) int { return s.stays[s.kind(v)] }

// uses notes that somebody asks for v, which is one with no other value yet.
func (s *sames) uses(v, user int) { s.users[v] = append(s.users[v], user) }

// join lets x, and all that is one with it, be y, and tells who asked for that of both whose kind isn't any more. Those who asked for the other one see nothing new but that both are one, if they ask for both; so they are told, too.
func (s *sames) join(x, y int) []int {
	less, more := s.kind(x), s.kind(y)
	stays := s.stays[more]
	if len(s.users[less]) > len(s.users[more]) {
		less, more = more, less
	}
	told := s.users[less]
	s.up[less] = more
	s.stays[more] = stays
	s.users[more] = append(s.users[more], told...)
	s.users[less] = nil
	return told
}
