package live

import "slices"

// spot: what is known of a vertex.
type spot struct {
	// The numbers of the edges that leave it and that enter it. They rise, so that
	// they are gone through in an order that the graph alone tells.
	out, in []int
	// Does a walk lead here? The cost doesn't tell, as a walk's may be +Inf.
	found bool
	// The distance, and the last edge of the path: 0 and none where no walk leads.
	// Of each vertex that has a last edge the cost is what that edge's weight makes of
	// the cost at its beginning: paths hang together by that, and cost the distance.
	cost float32
	last int
}

// edge: from a vertex to a vertex.
type edge struct {
	from, to int
	weight   float32
}

// put: an edge, of a number that is free, between vertices that are there.
func (t *Live) put(e int, x edge) {
	t.edges[e] = x
	from, to := t.vertices[x.from], t.vertices[x.to]
	from.out = with(from.out, e)
	to.in = with(to.in, e)
}

// remove: an edge that is there.
func (t *Live) remove(e int) {
	x := t.edges[e]
	from, to := t.vertices[x.from], t.vertices[x.to]
	from.out = without(from.out, e)
	to.in = without(to.in, e)
	delete(t.edges, e)
}

// with: a rising list, and e in its place.
func with(list []int, e int) []int {
	at, _ := slices.BinarySearch(list, e)
	return slices.Insert(list, at, e)
}

// without: a rising list less e, which is in it.
func without(list []int, e int) []int {
	at, _ := slices.BinarySearch(list, e)
	return slices.Delete(list, at, at+1)
}
