package cond_test

import (
	"math"
	"testing"

	"bramble/api"
)

func TestExamples(t *testing.T) {
	p := newPair(t, 7)
	p.addVertices(1, 2, 3)
	p.addArcs(10, 1, 2, 11, 2, 3)
	p.wantComps([]int{1}, []int{2}, []int{3})
	p.wantArcs(1, 2, 2, 3)
	p.addArcs(12, 3, 2)
	p.wantComps([]int{1}, []int{2, 3})
	p.wantArcs(1, 2)
	p.wantErrno(p.addArc(12, 1, 1), api.ErrTwice)
	p.wantErrno(p.addArc(13, 1, 7), api.ErrNoVertex)
	p.dropArcs(11)
	p.wantComps([]int{1}, []int{2}, []int{3})
	p.wantArcs(1, 2, 3, 2)
	p.want(p.dropVertex(2), false)
	p.dropArcs(10, 12)
	p.want(p.dropVertex(2), true)
	p.wantComps([]int{1}, []int{3})
	p.wantArcs()
}

func TestNoVertex(t *testing.T) {
	p := newPair(t, -1, 0, 1, math.MinInt, math.MaxInt)
	p.compare(0, 0)
	p.wantComps()
	p.wantArcs()
	for _, v := range []int{0, 1, -1, math.MinInt, math.MaxInt} {
		p.want(p.dropVertex(v), false)
		p.wantErrno(p.dropArc(v), api.ErrNoEdge)
		p.wantErrno(p.addArc(v, v, v), api.ErrNoVertex)
	}
}

func TestVerticesWithoutArcs(t *testing.T) {
	p := newPair(t, 0, 4)
	p.addVertices(5, -3, 9)
	p.want(p.addVertex(-3), false)
	p.wantComps([]int{-3}, []int{5}, []int{9})
	p.wantArcs()
	p.want(p.dropVertex(5), true)
	p.want(p.dropVertex(5), false)
	p.wantComps([]int{-3}, []int{9})
	p.want(p.addVertex(5), true)
	p.want(p.addVertex(0), true)
	p.wantComps([]int{-3}, []int{0}, []int{5}, []int{9})
}

// A vertex is gone when it is dropped last, and all may come again.
func TestAllGoAndComeAgain(t *testing.T) {
	p := newPair(t)
	for range 3 {
		p.addVertices(2, 1)
		p.addArcs(1, 1, 2, 2, 2, 1)
		p.wantComps([]int{1, 2})
		p.dropArcs(2, 1)
		p.want(p.dropVertex(1), true)
		p.want(p.dropVertex(2), true)
		p.wantComps()
	}
}

func TestArcToItself(t *testing.T) {
	p := newPair(t)
	p.addVertices(4, 6)
	p.addArcs(1, 4, 4, 2, 4, 4)
	p.wantComps([]int{4}, []int{6})
	p.wantArcs()
	p.addArcs(3, 4, 6)
	p.wantArcs(4, 6)
	p.addArcs(4, 6, 4, 5, 6, 6)
	p.wantComps([]int{4, 6})
	p.wantArcs()
	p.dropArcs(1, 5)
	p.wantComps([]int{4, 6})
	p.dropArcs(3)
	p.wantComps([]int{4}, []int{6})
	p.wantArcs(6, 4)
	p.dropArcs(4)
	p.want(p.dropVertex(4), false)
	p.dropArcs(2)
	p.want(p.dropVertex(4), true)
}

// Several arcs from one vertex to one other, between components and within one, go one behind the other.
func TestSeveralArcsOfOnePair(t *testing.T) {
	p := newPair(t)
	p.addVertices(1, 2)
	p.addArcs(7, 1, 2, 3, 1, 2, 5, 1, 2)
	p.wantArcs(1, 2)
	p.dropArcs(3)
	p.wantArcs(1, 2)
	p.addArcs(4, 2, 1, 9, 2, 1)
	p.wantComps([]int{1, 2})
	p.dropArcs(7)
	p.wantComps([]int{1, 2})
	p.dropArcs(4)
	p.wantComps([]int{1, 2})
	p.dropArcs(5)
	p.wantComps([]int{1}, []int{2})
	p.wantArcs(2, 1)
	p.dropArcs(9)
	p.wantArcs()
}

// One pair is told once, though several vertices of the one component have arcs to several of the other.
func TestSeveralArcsBetweenTwoComponents(t *testing.T) {
	p := newPair(t)
	p.addVertices(1, 2, 3, 4, 5)
	p.addArcs(1, 1, 4, 2, 4, 1, 3, 2, 3, 4, 3, 2)
	p.addArcs(5, 4, 2, 6, 1, 3, 7, 4, 3, 8, 5, 4, 9, 5, 1, 10, 2, 5)
	p.wantComps([]int{1, 2, 3, 4, 5})
	p.dropArcs(10)
	p.wantComps([]int{1, 4}, []int{2, 3}, []int{5})
	p.wantArcs(1, 2, 5, 1)
	p.dropArcs(5, 7, 8)
	p.wantArcs(1, 2, 5, 1)
	p.dropArcs(6)
	p.wantArcs(5, 1)
}

// Any ints are vertices and arcs, also where a difference of two is none.
func TestAnyNumbers(t *testing.T) {
	least, most := math.MinInt, math.MaxInt
	p := newPair(t, least, most, 0, -1, most-1)
	p.addVertices(most, 0, least, -7)
	p.addArcs(least, most, least, most, least, -7, 0, most, 0, -1, -7, 0)
	p.wantComps([]int{least}, []int{-7}, []int{0}, []int{most})
	p.wantArcs(least, -7, -7, 0, most, least, most, 0)
	p.wantErrno(p.addArc(least, 0, 0), api.ErrTwice)
	p.wantErrno(p.addArc(most, 0, 0), api.ErrTwice)
	p.addArcs(1, -7, most)
	p.wantComps([]int{least, -7, most}, []int{0})
	p.wantArcs(least, 0)
	p.dropArcs(least)
	p.wantComps([]int{least}, []int{-7}, []int{0}, []int{most})
	p.wantArcs(least, -7, -7, 0, -7, most, most, 0)
	p.wantErrno(p.dropArc(least), api.ErrNoEdge)
	p.want(p.dropVertex(least), false)
	p.dropArcs(most, 0)
	p.want(p.dropVertex(least), true)
}

func TestDropVertex(t *testing.T) {
	p := newPair(t, 9)
	p.addVertices(1, 2, 3)
	p.want(p.dropVertex(9), false)
	p.addArcs(1, 1, 2)
	p.want(p.dropVertex(1), false)
	p.want(p.dropVertex(2), false)
	p.addArcs(2, 3, 3)
	p.want(p.dropVertex(3), false)
	p.dropArcs(2)
	p.want(p.dropVertex(3), true)
	p.want(p.dropVertex(3), false)
	p.addArcs(3, 2, 1)
	p.want(p.dropVertex(1), false)
	p.dropArcs(1)
	p.want(p.dropVertex(1), false)
	p.want(p.dropVertex(2), false)
	p.dropArcs(3)
	p.want(p.dropVertex(1), true)
	p.want(p.dropVertex(2), true)
	p.wantComps()
}

// An arc leads to a vertex that was gone and is there again only where it was added behind that.
func TestVertexComesAgain(t *testing.T) {
	p := newPair(t)
	p.addVertices(1, 2)
	p.addArcs(1, 1, 2, 2, 2, 1)
	p.dropArcs(1, 2)
	p.want(p.dropVertex(2), true)
	p.wantErrno(p.addArc(1, 1, 2), api.ErrNoVertex)
	p.addVertices(2)
	p.wantComps([]int{1}, []int{2})
	p.wantArcs()
	p.addArcs(1, 2, 1)
	p.wantArcs(2, 1)
}

func TestErrors(t *testing.T) {
	p := newPair(t, 8, 9)
	p.addVertices(1, 2)
	p.addArcs(5, 1, 2)
	for _, c := range []struct {
		e, u, v int
		errno   api.Errno
	}{
		{5, 1, 2, api.ErrTwice},
		{5, 2, 1, api.ErrTwice},
		{5, 1, 1, api.ErrTwice},
		{6, 1, 8, api.ErrNoVertex},
		{6, 8, 1, api.ErrNoVertex},
		{6, 8, 8, api.ErrNoVertex},
		{6, 8, 9, api.ErrNoVertex},
		{5, 1, 8, api.ErrTwice},
		{5, 8, 1, api.ErrTwice},
		{5, 8, 9, api.ErrTwice},
	} {
		p.wantErrno(p.addArc(c.e, c.u, c.v), c.errno)
		p.wantArcs(1, 2)
	}
	for _, e := range []int{6, 0, 1, -5} {
		p.wantErrno(p.dropArc(e), api.ErrNoEdge)
	}
	p.dropArcs(5)
	p.wantErrno(p.dropArc(5), api.ErrNoEdge)
	p.addArcs(5, 2, 1)
	p.wantArcs(2, 1)
	p.dropArcs(5)
	p.wantArcs()
}

// What was refused has left nothing behind: neither an arc, nor an end of one, nor a vertex.
func TestRefusedLeavesNothing(t *testing.T) {
	p := newPair(t, 3)
	p.addVertices(1, 2)
	p.wantErrno(p.addArc(1, 1, 3), api.ErrNoVertex)
	p.wantErrno(p.addArc(1, 3, 1), api.ErrNoVertex)
	p.wantErrno(p.dropArc(1), api.ErrNoEdge)
	p.addArcs(1, 2, 2)
	p.wantErrno(p.addArc(1, 1, 2), api.ErrTwice)
	p.want(p.dropVertex(1), true)
	p.dropArcs(1)
	p.want(p.dropVertex(2), true)
	p.want(p.dropVertex(3), false)
}

// Edits of one are no edits of another.
func TestTwoApart(t *testing.T) {
	p, q := newPair(t, 1, 2, 3), newPair(t, 1, 2, 3)
	p.addVertices(1, 2)
	q.compare(0, 0)
	q.addVertices(2, 3)
	p.addArcs(1, 1, 2, 2, 2, 1)
	q.addArcs(1, 3, 2)
	p.compare(0, 4)
	p.wantComps([]int{1, 2})
	q.wantComps([]int{2}, []int{3})
	q.wantArcs(3, 2)
}
