package reach_test

import (
	"math"
	"testing"

	"bramble/api"
)

func TestExamples(t *testing.T) {
	p := newPair(t, 7)
	p.addVertices(1, 2, 3)
	p.addArcs(5, 1, 2, 6, 2, 3, 7, 1, 3)
	p.want(p.x.Reach(1, 3), true)
	p.wantWalk(1, 3, []int{7}, []int{5, 6})
	p.want(p.x.Reach(3, 1), false)
	p.wantNoWalk(3, 1)
	p.wantWalk(2, 2, nil)
	p.dropArcs(7)
	p.wantWalk(1, 3, []int{5, 6})
	p.dropArcs(6)
	p.want(p.x.Reach(1, 3), false)
	p.want(p.x.Post(1) == p.x.Post(2), false)
	p.addArcs(8, 2, 1)
	p.want(p.x.Post(1) == p.x.Post(2), true)
	p.askQuiet()
}

// The rows of chapter 10, as far as they are of calls that are the index's too.
func TestExamplesOfComponents(t *testing.T) {
	p := newPair(t, 7)
	p.addVertices(1, 2, 3)
	p.addArcs(10, 1, 2, 11, 2, 3)
	p.wantComps([]int{1}, []int{2}, []int{3})
	p.addArcs(12, 3, 2)
	p.wantComps([]int{1}, []int{2, 3})
	p.wantErrno(p.addArc(12, 1, 1), api.ErrTwice)
	p.wantErrno(p.addArc(13, 1, 7), api.ErrNoVertex)
	p.dropArcs(11)
	p.wantComps([]int{1}, []int{2}, []int{3})
	p.want(p.dropVertex(2), false)
	p.dropArcs(10, 12)
	p.want(p.dropVertex(2), true)
	p.wantComps([]int{1}, []int{3})
}

func TestNoVertex(t *testing.T) {
	p := newPair(t, -1, 0, 1, math.MinInt, math.MaxInt)
	p.wantComps()
	for _, v := range []int{0, 1, -1, math.MinInt, math.MaxInt} {
		p.want(p.x.Reach(v, v), false)
		p.wantNoWalk(v, v)
		p.want(p.dropVertex(v), false)
		p.wantErrno(p.dropArc(v), api.ErrNoEdge)
		p.wantErrno(p.addArc(v, v, v), api.ErrNoVertex)
	}
	p.askQuiet()
}

func TestVerticesWithoutArcs(t *testing.T) {
	p := newPair(t, 0, 4)
	p.addVertices(5, -3, 9)
	p.want(p.addVertex(-3), false)
	for _, v := range []int{-3, 5, 9} {
		p.wantReached(v, v)
		p.wantWalk(v, v, nil)
	}
	p.want(p.dropVertex(5), true)
	p.want(p.dropVertex(5), false)
	p.wantReached(5)
	p.wantNoWalk(5, 5)
	p.wantNoWalk(5, 9)
	p.wantNoWalk(9, 5)
	p.addVertices(5, 0)
	p.wantComps([]int{-3}, []int{0}, []int{5}, []int{9})
	p.askQuiet()
}

func TestArcToItself(t *testing.T) {
	p := newPair(t, 6)
	p.addVertices(4)
	p.addArcs(1, 4, 4)
	p.wantReached(4, 4)
	p.wantWalk(4, 4, nil)
	p.want(p.dropVertex(4), false)
	p.addArcs(2, 4, 4)
	p.dropArcs(1)
	p.wantReached(4, 4)
	p.want(p.dropVertex(4), false)
	p.addVertices(6)
	p.addArcs(3, 4, 6, 4, 6, 6, 5, 6, 4)
	p.wantComps([]int{4, 6})
	p.wantWalk(4, 6, []int{3})
	p.dropArcs(3)
	p.wantReached(4, 4)
	p.wantReached(6, 4, 6)
	p.dropArcs(2, 4, 5)
	p.want(p.dropVertex(4), true)
	p.want(p.dropVertex(6), true)
	p.askQuiet()
}

// Of several arcs from one vertex to one other some go and some stay, whichever of them.
func TestSeveralArcsOfOnePair(t *testing.T) {
	for _, order := range orders(3) {
		p := newPair(t)
		p.addVertices(1, 2)
		p.addArcs(7, 1, 2, 3, 1, 2, 5, 1, 2)
		es := []int{7, 3, 5}
		p.dropArcs(es[order[0]])
		p.wantReached(1, 1, 2)
		p.wantReached(2, 2)
		p.dropArcs(es[order[1]])
		p.wantWalk(1, 2, []int{es[order[2]]})
		p.addArcs(8, 2, 1, 9, 2, 1)
		p.wantComps([]int{1, 2})
		p.dropArcs(9)
		p.wantComps([]int{1, 2})
		p.wantWalk(2, 1, []int{8})
		p.dropArcs(es[order[2]])
		p.wantReached(1, 1)
		p.wantReached(2, 1, 2)
		p.dropArcs(8)
		p.wantReached(2, 2)
		p.askQuiet()
	}
}

// A vertex goes behind its arcs, and comes again without them, with others and with the same.
func TestVertexGoesAndComesAgain(t *testing.T) {
	p := newPair(t, 2)
	p.addVertices(1, 2, 3)
	for range 3 {
		p.addArcs(1, 1, 2, 2, 2, 3, 4, 2, 2)
		p.wantReached(1, 1, 2, 3)
		p.want(p.dropVertex(2), false)
		p.dropArcs(4, 1)
		p.want(p.dropVertex(2), false)
		p.dropArcs(2)
		p.want(p.dropVertex(2), true)
		p.wantReached(1, 1)
		p.wantReached(2)
		p.wantErrno(p.addArc(1, 1, 2), api.ErrNoVertex)
		p.addVertices(2)
		p.wantReached(1, 1)
		p.wantReached(2, 2)
		p.addArcs(1, 3, 2, 2, 2, 1)
		p.wantReached(3, 1, 2, 3)
		p.wantWalk(3, 1, []int{1, 2})
		p.dropArcs(1, 2)
	}
	p.askQuiet()
}

// All go, the last one too, and all may come again.
func TestAllGoAndComeAgain(t *testing.T) {
	p := newPair(t, 1, 2)
	for range 3 {
		p.addVertices(2, 1)
		p.addArcs(1, 1, 2, 2, 2, 1)
		p.wantReached(1, 1, 2)
		p.dropArcs(2, 1)
		p.want(p.dropVertex(1), true)
		p.want(p.dropVertex(2), true)
		p.wantComps()
	}
	p.askQuiet()
}

// Any ints are vertices and arcs, also where a difference of two is none.
func TestEndsOfInt(t *testing.T) {
	least, most := math.MinInt, math.MaxInt
	p := newPair(t, least, most, least+1, most-1, 0, -1, -7)
	p.addVertices(most, 0, least, -7)
	p.addArcs(least, most, least, most, least, -7, 0, most, 0, -1, -7, 0)
	p.wantReached(most, least, -7, 0, most)
	p.wantReached(least, least, -7, 0)
	p.wantWalk(most, -7, []int{least, most})
	p.wantErrno(p.addArc(least, 0, 0), api.ErrTwice)
	p.wantErrno(p.addArc(most, 0, 0), api.ErrTwice)
	p.wantErrno(p.addArc(1, 0, least+1), api.ErrNoVertex)
	p.addArcs(1, -7, most)
	p.wantComps([]int{least, -7, most}, []int{0})
	p.wantWalk(least, most, []int{most, 1})
	p.dropArcs(least)
	p.wantReached(most, 0, most)
	p.wantReached(least, least, -7, 0, most)
	p.wantErrno(p.dropArc(least), api.ErrNoEdge)
	p.want(p.dropVertex(least), false)
	p.dropArcs(most)
	p.want(p.dropVertex(least), true)
	p.askQuiet()
}

func TestErrors(t *testing.T) {
	p := newPair(t, 8, 9)
	p.addVertices(1, 2)
	p.addArcs(5, 1, 2)
	for _, c := range []struct {
		e, u, v int
		errno   api.Errno
	}{
		{5, 1, 2, api.ErrTwice},
		{5, 2, 1, api.ErrTwice},
		{5, 1, 1, api.ErrTwice},
		{6, 1, 8, api.ErrNoVertex},
		{6, 8, 1, api.ErrNoVertex},
		{6, 8, 8, api.ErrNoVertex},
		{6, 8, 9, api.ErrNoVertex},
		{5, 1, 8, api.ErrTwice},
		{5, 8, 1, api.ErrTwice},
		{5, 8, 9, api.ErrTwice},
	} {
		p.wantErrno(p.addArc(c.e, c.u, c.v), c.errno)
		p.wantReached(1, 1, 2)
		p.wantReached(2, 2)
	}
	for _, e := range []int{6, 0, 1, -5} {
		p.wantErrno(p.dropArc(e), api.ErrNoEdge)
	}
	for _, v := range []int{1, 2} {
		p.want(p.addVertex(v), false)
		p.want(p.dropVertex(v), false)
	}
	p.want(p.dropVertex(8), false)
	p.dropArcs(5)
	p.wantErrno(p.dropArc(5), api.ErrNoEdge)
	p.addArcs(5, 2, 1)
	p.wantReached(1, 1)
	p.wantReached(2, 1, 2)
	p.askQuiet()
}

// What was refused has left nothing behind: neither an arc, nor an end of one, nor a vertex.
func TestRefusedLeavesNothing(t *testing.T) {
	p := newPair(t, 3)
	p.addVertices(1, 2)
	p.wantErrno(p.addArc(1, 1, 3), api.ErrNoVertex)
	p.wantErrno(p.addArc(1, 3, 1), api.ErrNoVertex)
	p.wantErrno(p.dropArc(1), api.ErrNoEdge)
	p.addArcs(1, 2, 2)
	p.wantErrno(p.addArc(1, 1, 2), api.ErrTwice)
	p.addVertices(3)
	p.wantReached(1, 1)
	p.want(p.dropVertex(1), true)
	p.dropArcs(1)
	p.want(p.dropVertex(2), true)
	p.want(p.dropVertex(3), true)
	p.askQuiet()
}

// Edits of one are no edits of another.
func TestTwoApart(t *testing.T) {
	p, q := newPair(t, 1, 2, 3), newPair(t, 1, 2, 3)
	p.addVertices(1, 2)
	q.compare()
	q.addVertices(2, 3)
	p.addArcs(1, 1, 2, 2, 2, 1)
	q.addArcs(1, 3, 2)
	p.compare()
	q.compare()
	p.wantReached(2, 1, 2)
	q.wantReached(2, 2)
	q.wantReached(3, 2, 3)
}

// Each leads on to each that comes behind it; then, arc by arc, to all.
func TestEverythingLeadsOn(t *testing.T) {
	const n = 7
	p := newPair(t)
	p.addVertices(numbers(0, n)...)
	e := 0
	for u := range n {
		for v := u + 1; v < n; v++ {
			p.addArcs(e, u, v)
			e++
		}
	}
	for u := range n {
		p.wantReached(u, numbers(u, n-u)...)
	}
	for u := range n {
		for v := range u + 1 {
			p.addArcs(e, u, v)
			e++
		}
	}
	p.wantComps(numbers(0, n))
	for gone := range e {
		p.dropArcs(gone)
	}
	for u := range n {
		p.wantReached(u, u)
	}
	p.askQuiet()
}

// A walk takes no way that doesn't lead there, and no way round.
func TestWalkAmongManyWays(t *testing.T) {
	p := newPair(t)
	p.addVertices(1, 2, 3, 4, 5, 6)
	p.addArcs(1, 1, 5, 2, 5, 6, 3, 1, 2, 4, 2, 1, 5, 2, 3, 6, 3, 2, 7, 3, 4)
	p.wantWalk(1, 4, []int{3, 5, 7})
	p.wantWalk(3, 6, []int{6, 4, 1, 2})
	p.wantNoWalk(4, 1)
	p.wantNoWalk(6, 5)
	p.addArcs(8, 2, 4, 9, 1, 1, 10, 4, 4)
	p.wantWalk(1, 4, []int{3, 5, 7}, []int{3, 8})
	p.dropArcs(7)
	p.wantWalk(1, 4, []int{3, 8})
	p.dropArcs(8)
	p.wantNoWalk(1, 4)
	p.askQuiet()
}
