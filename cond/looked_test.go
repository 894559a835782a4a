package cond_test

import (
	"math/rand/v2"
	"testing"

	"bramble/api"
	"bramble/cond"
)

// wantLooked holds what Looked tells against these bounds.
func (p *pair) wantLooked(least, most int) {
	p.t.Helper()
	if got := p.c.Looked(); got < least || got > most {
		p.fail("P10.2: Looked: %d, not from %d to %d", got, least, most)
	}
}

func TestLookedAheadOfTheFirst(t *testing.T) {
	p := newPair(t)
	p.wantLooked(0, 0)
	p.addVertices(1, 2, 3)
	p.wantLooked(0, 0)
	p.dropVertex(3)
	p.wantLooked(0, 0)
	p.addArc(1, 1, 9)
	p.wantLooked(0, 0)
	p.dropArc(1)
	p.wantLooked(0, 0)
}

// What joins components, or parts one, can't be found without a look.
func TestLookedOfEachKind(t *testing.T) {
	p := newPair(t)
	p.addVertices(1, 2, 3, 4, 5, 6)
	p.addArcs(1, 1, 2)
	p.wantLooked(0, 12)
	p.addArcs(2, 2, 1)
	p.wantLooked(1, 12)
	p.addArcs(3, 2, 3, 4, 3, 4, 5, 4, 2)
	p.wantLooked(1, 12)
	p.addArcs(6, 1, 2) // Within a component.
	p.wantLooked(0, 0)
	p.addArcs(7, 4, 4, 8, 5, 5) // From a vertex to itself.
	p.wantLooked(0, 0)
	p.addArcs(9, 4, 5, 10, 5, 6)
	p.dropArcs(10) // Between two components.
	p.wantLooked(0, 0)
	p.dropArcs(4) // Within a component of 1 to 4.
	p.wantLooked(1, 8)
	p.dropArcs(7)
	p.wantLooked(0, 0)
	p.dropArcs(2) // Within a component of 1 and 2.
	p.wantLooked(1, 4)
	p.dropArcs(8)
	p.wantLooked(0, 0)
	p.dropArcs(9)
	p.wantLooked(0, 0)
}

// It tells of the last edit of arcs that was done, whatever was refused and asked behind it.
func TestLookedStays(t *testing.T) {
	p := newPair(t)
	p.addVertices(1, 2, 3)
	p.addArcs(1, 1, 2, 2, 2, 1)
	was := p.c.Looked()
	if was == 0 {
		t.Error("P10.2: the ring was closed without a look")
	}
	stays := func() {
		t.Helper()
		p.wantLooked(was, was)
	}
	p.wantErrno(p.addArc(1, 1, 1), api.ErrTwice)
	stays()
	p.wantErrno(p.addArc(2, 9, 9), api.ErrTwice)
	stays()
	p.wantErrno(p.addArc(3, 1, 9), api.ErrNoVertex)
	stays()
	p.wantErrno(p.dropArc(3), api.ErrNoEdge)
	stays()
	p.want(p.addVertex(4), true)
	stays()
	p.want(p.addVertex(4), false)
	stays()
	p.want(p.dropVertex(4), true)
	stays()
	p.want(p.dropVertex(1), false)
	stays()
	p.want(p.dropVertex(9), false)
	stays()
	p.c.Head(1)
	p.c.Same(1, 2)
	p.c.Members(1)
	p.c.Heads()
	p.c.Arcs()
	p.c.Looked()
	stays()
	p.addArcs(3, 3, 3)
	p.wantLooked(0, 0)
}

// A vertex with very many arcs loses one to another component, or gets one within its own, without a look.
func TestNoLookAtVertexOfManyArcs(t *testing.T) {
	const n = 20000
	c := cond.New()
	for v := range n {
		c.AddVertex(v)
	}
	for v := 1; v < n; v++ {
		c.AddArc(v, 0, v)
	}
	for v := 1; v < n; v++ {
		e := n - v
		if c.DropArc(e) != api.OK || c.Looked() != 0 {
			t.Fatalf("P10.2: DropArc(%d): looked at %d", e, c.Looked())
		}
		if c.AddArc(e, 0, 0) != api.OK || c.Looked() != 0 {
			t.Fatalf("P10.2: AddArc(%d, 0, 0): looked at %d", e, c.Looked())
		}
	}
	if c.DropVertex(0) || len(c.Heads()) != n || len(c.Arcs()) != 0 {
		t.Error("P10.1: behind the edits")
	}
}

// An arc that goes from a small component of a large graph is paid for by the small one alone.
func TestLookedOfSmallComponentOfLargeGraph(t *testing.T) {
	const n = 5000
	c := cond.New()
	for v := range 2 * n {
		c.AddVertex(v)
	}
	for v := range 2 * n {
		c.AddArc(v, v, v^1) // Twos.
	}
	for v := range n - 1 {
		c.AddArc(2*n+v, 2*v, 2*v+3) // From each two to the next one.
	}
	for v := range n {
		if c.DropArc(2*v) != api.OK || c.Looked() > 4 {
			t.Fatalf("P10.2: DropArc(%d): looked at %d", 2*v, c.Looked())
		}
	}
	if len(c.Heads()) != 2*n {
		t.Errorf("P10.1: %d heads", len(c.Heads()))
	}
}

// The same edits tell the same, Looked too: the order in which a map is gone through doesn't show.
func TestSameEditsTellTheSame(t *testing.T) {
	r := rand.New(rand.NewPCG(10, 5))
	for range 100 {
		n := 3 + r.IntN(20)
		first, second := cond.New(), cond.New()
		for v := range n {
			first.AddVertex(v)
			second.AddVertex(v)
		}
		for range 100 {
			e, u, v := r.IntN(3*n), r.IntN(n), r.IntN(n)
			if r.IntN(3) > 0 {
				first.AddArc(e, u, v)
				second.AddArc(e, u, v)
			} else {
				first.DropArc(e)
				second.DropArc(e)
			}
			if first.Looked() != second.Looked() {
				t.Fatalf("R7: Looked: %d, and %d of the same edits", first.Looked(), second.Looked())
			}
		}
	}
}
