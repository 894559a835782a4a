package scc

import "slices"

// none: no head yet.
const none = -1

// search goes through a graph depth first, and closes each component when it goes
// back from the one of its places to which it came first (Tarjan's way). It keeps
// its trail itself, as one may be as long as the list of vertices.
type search struct {
	next [][]int
	// Of each place, the head of its component; none while that isn't closed.
	heads []int
	// Of each place, when it was come to, from 1 on; 0: it wasn't yet.
	turns []int
	// Of each place, the least turn of an open place that is known to be reached
	// from it.
	lows []int
	// Of each place, how many of its arcs were tried.
	tried []int
	// How many places were come to.
	turn int
	// The places on the way to where the search is.
	trail []int
	// The places that were come to and whose components aren't closed, by their turns.
	open []int
}

// headsOf: of each place, the head of its component.
func headsOf(next [][]int) []int {
	n := len(next)
	s := &search{
		next:  next,
		heads: slices.Repeat([]int{none}, n),
		turns: make([]int, n),
		lows:  make([]int, n),
		tried: make([]int, n),
	}
	for place := range next {
		if s.turns[place] == 0 {
			s.from(place)
		}
	}
	return s.heads
}

// from closes the components of all places that are reached from this one.
func (s *search) from(place int) {
	s.enter(place)
	for len(s.trail) > 0 {
		at := s.trail[len(s.trail)-1]
		if s.tried[at] < len(s.next[at]) {
			s.tryArc(at)
		} else {
			s.leave(at)
		}
	}
}

// enter comes to a place for the first time.
func (s *search) enter(place int) {
	s.turn++
	s.turns[place], s.lows[place] = s.turn, s.turn
	s.trail = append(s.trail, place)
	s.open = append(s.open, place)
}

// tryArc looks where the next arc of this place leads.
func (s *search) tryArc(at int) {
	to := s.next[at][s.tried[at]]
	s.tried[at]++
	switch {
	case s.turns[to] == 0:
		s.enter(to)
	case s.heads[to] == none:
		s.lows[at] = min(s.lows[at], s.turns[to])
	}
}

// leave goes back from a place whose arcs were all tried.
func (s *search) leave(at int) {
	s.trail = s.trail[:len(s.trail)-1]
	if s.lows[at] == s.turns[at] {
		s.closeFrom(at)
		return
	}
	// An earlier place is reached from it, so it isn't the one the trail began at.
	before := s.trail[len(s.trail)-1]
	s.lows[before] = min(s.lows[before], s.lows[at])
}

// closeFrom closes the component of a place: it and all open ones behind it.
func (s *search) closeFrom(first int) {
	begin := len(s.open) - 1
	for s.open[begin] != first {
		begin--
	}
	head := slices.Min(s.open[begin:])
	for _, place := range s.open[begin:] {
		s.heads[place] = head
	}
	s.open = s.open[:begin]
}
