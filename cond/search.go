package cond

import (
	"maps"
	"slices"

	"bramble/api"
	"bramble/scc"
)

// ends: of each vertex that has arcs of one direction, by the arcs' numbers, the
// vertices at their other ends. An arc is put in and dropped without going through
// the vertex's other ones.
type ends map[int]map[int]int

// put: the arc e is one of v's.
func (x ends) put(v, e, other int) {
	if x[v] == nil {
		x[v] = map[int]int{}
	}
	x[v][e] = other
}

// drop: the arc e is none of v's any more. What has become empty goes too, so that
// nothing is kept of vertices that are gone.
func (x ends) drop(v, e int) {
	delete(x[v], e)
	if len(x[v]) == 0 {
		delete(x, v)
	}
}

// set: of vertices.
type set map[int]struct{}

func (s set) has(v int) bool {
	_, in := s[v]
	return in
}

// look: the ends of a vertex's arcs of one direction, for whoever goes through them.
// Nobody else does, so that each time is counted.
func (c *Cond) look(v int, along ends) map[int]int {
	c.looked++
	return along[v]
}

// spread: this vertex, and all to which one comes from it along such arcs by way of
// open vertices alone. Each is looked at once, whatever the order in which the maps
// give the arcs, so that order doesn't show.
func (c *Cond) spread(from int, along ends, open func(v int) bool) set {
	found := set{from: {}}
	waiting := []int{from}
	for len(waiting) > 0 {
		last := len(waiting) - 1
		at := waiting[last]
		waiting = waiting[:last]
		for _, to := range c.look(at, along) {
			if !found.has(to) && open(to) {
				found[to] = struct{}{}
				waiting = append(waiting, to)
			}
		}
	}
	return found
}

// joinRings makes one component of all vertices that lie on a ring with the arc from
// u to v, which is new: those that v reaches and that reach u.
func (c *Cond) joinRings(u, v int) {
	reached := c.spread(v, c.leaving, func(int) bool { return true })
	if !reached.has(u) {
		return
	}
	ring := c.spread(u, c.entering, reached.has)
	c.joinAll(slices.Sorted(maps.Keys(ring)))
}

// partAnew finds what has become of v's component, from within which an arc has gone.
func (c *Cond) partAnew(v int) {
	members := c.Members(v)
	left, _ := scc.Of(members, c.arcsWithin(members))
	// It has gone through the arcs of each vertex once more.
	c.looked += len(members)
	if len(left) == 1 {
		return
	}
	c.comps.Burst(v)
	for _, comp := range left {
		c.joinAll(comp)
	}
}

// arcsWithin: those that lead from a member of a component to one of the same.
func (c *Cond) arcsWithin(members []int) []api.Arc {
	var within []api.Arc
	for _, u := range members {
		for _, v := range c.look(u, c.leaving) {
			if c.Same(u, v) {
				within = append(within, api.Arc{U: u, V: v})
			}
		}
	}
	return within
}

// joinAll makes one component of these vertices and of all that stand with one of
// them. They rise, at least one: so a single one comes in at the end of its part,
// where it moves no other.
func (c *Cond) joinAll(vertices []int) {
	for _, v := range vertices[1:] {
		c.comps.Join(vertices[0], v)
	}
}
