package live_test

import (
	"testing"

	"bramble/api"
)

// An edge more makes all nearer that lie behind it, and no other.
func TestNearer(t *testing.T) {
	p := newPair(t, 1)
	p.addVertices(2, 3, 4, 5, 6)
	p.insertAll(edge(1, 1, 2, 9), edge(2, 2, 3, 1), edge(3, 3, 4, 1), edge(4, 1, 5, 2), edge(5, 5, 4, 9), edge(6, 1, 6, 4))
	p.wantDist(4, bitsOf(11))
	p.insertAll(edge(7, 5, 2, 3))
	p.wantPath(4, []int{4, 7, 2, 3})
	p.wantDist(4, bitsOf(7))
	p.wantTouched(3, 3)
	// It stops where others are as near.
	p.insertAll(edge(8, 6, 4, 2))
	p.wantPath(4, []int{6, 8})
	p.insertAll(edge(9, 1, 2, 4))
	p.wantTouched(2, 2)
	p.wantPath(4, []int{6, 8})
	p.wantPath(3, []int{9, 2})
	p.reweigh(9, three)
	p.wantDist(4, bitsOf(5))
	p.wantPath(4, []int{9, 2, 3})
	p.wantTouched(3, 3)
}

// A walk of more edges, or one that is found later, may be the cheaper one.
func TestRoundabout(t *testing.T) {
	p := newPair(t, 1)
	p.addVertices(2, 3, 4, 5)
	p.insertAll(edge(1, 1, 5, 100), edge(3, 2, 5, 50), edge(4, 2, 3, 1), edge(5, 3, 5, 20), edge(6, 3, 4, 1), edge(7, 4, 5, 1), edge(2, 1, 2, 1))
	p.wantPath(5, []int{2, 4, 6, 7})
	p.wantTouched(4, 4) // 5 comes nearer more than once, and counts once.
	p.delete(7)
	p.wantPath(5, []int{2, 4, 5})
	p.wantTouched(1, 1)
	p.delete(4)
	p.wantPath(5, []int{2, 3})
	p.wantReached(1, 2, 5)
	p.delete(2)
	p.wantPath(5, []int{1})
	p.insertAll(edge(2, 1, 2, 60), edge(4, 2, 3, 1))
	p.wantPath(5, []int{2, 4, 5})
	p.wantDist(5, bitsOf(81))
}

// A vertex that waits comes nearer ahead of others that wait: each is gone on from once.
func TestWaitingVertexComesNearer(t *testing.T) {
	p := newPair(t, 0)
	p.addVertices(1, 2, 3, 4)
	p.insertAll(edge(2, 1, 2, 10), edge(3, 1, 3, 1), edge(4, 3, 2, 1), edge(5, 1, 4, 5), edge(6, 2, 4, 1), edge(1, 0, 1, 1))
	p.wantPath(4, []int{1, 3, 4, 6})
	p.wantTouched(4, 4)
	p.reweigh(1, two)
	p.wantPath(4, []int{1, 3, 4, 6})
	p.wantTouched(4, 4)
}

// A ladder on which each rung makes all above it nearer once more, for one that goes on from the wrong vertex first.
func TestLadder(t *testing.T) {
	const rungs = 12
	p := newPair(t, 0).wide()
	for v := 1; v <= 2*rungs+1; v++ {
		p.addVertices(v)
	}
	for i := range rungs {
		from, up := 2*i+1, float32(int(1)<<(rungs-i))
		p.insertAll(edge(10+3*i, from, from+1, 0), edge(11+3*i, from, from+2, 2*up), edge(12+3*i, from+1, from+2, up))
	}
	p.insertAll(edge(1, 0, 1, 1))
	p.wantTouched(2*rungs+1, 2*rungs+1)
	p.reweigh(1, 0)
	p.wantTouched(2*rungs+1, 2*rungs+1)
	p.delete(1)
	p.wantTouched(2*rungs+1, 2*rungs+1)
}

// fan: a part of the tree behind the vertex 2: an edge from 1, and a binary tree of unit weights below it; and an edge of its own for each
// vertex that is named, from 1 straight to it, of this weight.
func fan(t *testing.T, n int, w float32, straight ...int) *pair {
	p := newPair(t, 1)
	for v := 2; v <= n; v++ {
		p.addVertices(v)
	}
	p.insertAll(edge(2, 1, 2, 1))
	for v := 3; v <= n; v++ {
		p.insertAll(edge(v, v/2+1, v, 1))
	}
	for _, v := range straight {
		p.insertAll(edge(100+v, 1, v, w))
	}
	return p
}

func TestPartLosesItsWay(t *testing.T) {
	p := fan(t, 9, 0)
	p.delete(2)
	p.wantReached(1)
	p.wantTouched(8, 8)
	p.insertAll(edge(2, 1, 2, 1))
	p.wantTouched(8, 8)
	p.delete(3)
	p.wantTouched(1, 7)
	p.insertAll(edge(3, 2, 3, 1))
}

func TestPartFindsAnotherWay(t *testing.T) {
	// Another way to its top.
	p := fan(t, 9, 20, 2)
	p.delete(2)
	p.wantTouched(8, 8)
	p.wantReached(1, 2, 3, 4, 5, 6, 7, 8, 9)
	p.wantPath(2, []int{102})
	// Another way to its middle, with what lies below; the rest has none.
	p = fan(t, 9, 20, 3)
	p.delete(2)
	p.wantPath(3, []int{103})
	p.wantNothing(2, api.ErrNoPath)
	// Other ways to its leaves, from which nothing leads back, till an edge does.
	p = fan(t, 9, 20, 8, 9)
	p.delete(2)
	p.wantReached(1, 8, 9)
	p.insertAll(edge(50, 9, 2, 1))
	p.wantReached(1, 2, 3, 4, 5, 6, 7, 8, 9)
	p.wantPath(2, []int{109, 50})
	p.insertAll(edge(2, 1, 2, 1))
	p.wantDist(2, one)
	p.delete(2)
	p.wantPath(2, []int{109, 50})
	p.delete(109)
	p.wantReached(1, 8)
}

// The part turns round: what was its end is its beginning.
func TestPartTurnsRound(t *testing.T) {
	p := newPair(t, 0)
	p.addVertices(1, 2, 3, 4)
	for v := 1; v < 4; v++ {
		p.insertAll(edge(v, v, v+1, 1), edge(10+v, v+1, v, 1))
	}
	p.insertAll(edge(20, 0, 1, 1), edge(21, 0, 4, 9))
	p.wantPath(4, []int{20, 1, 2, 3})
	p.reweigh(20, bitsOf(50))
	p.wantPath(1, []int{21, 13, 12, 11})
	p.wantTouched(4, 4)
	p.reweigh(20, bitsOf(11))
	p.wantPath(1, []int{20})
	p.wantPath(2, []int{21, 13, 12})
	p.wantTouched(1, 1)
	p.delete(21)
	p.wantPath(4, []int{20, 1, 2, 3})
	p.delete(20)
	p.wantReached(0)
}

// rings: one with weights of this kind, with a ring beside it, all behind one edge of this weight.
func rings(t *testing.T, in, round uint32) *pair {
	p := newPair(t, 0)
	p.addVertices(1, 2, 3, 4, 5)
	p.insertAll(api.Edge{E: 1, U: 0, V: 1, Bits: in})
	for e, arc := range []api.Arc{{U: 1, V: 2}, {U: 2, V: 3}, {U: 3, V: 1}, {U: 3, V: 4}, {U: 4, V: 3}, {U: 2, V: 2}, {U: 2, V: 1}, {U: 4, V: 5}} {
		p.insertAll(api.Edge{E: 2 + e, U: arc.U, V: arc.V, Bits: round})
	}
	return p
}

func TestRings(t *testing.T) {
	for _, c := range []struct{ in, round uint32 }{
		{0, 0}, {one, 0}, {one, minus0}, {many, one}, {many, least}, {greatest, 0x72ffffff}, {greatest, greatest}, {one, two}, {least, least},
	} {
		// The only way in goes.
		p := rings(t, c.in, c.round)
		p.wantDist(1, added(0, c.in))
		p.delete(1)
		p.wantReached(0)
		p.wantTouched(5, 5)
		p.insertAll(api.Edge{E: 1, U: 0, V: 3, Bits: c.in})
		p.wantPath(3, []int{1})
		p.wantPath(5, []int{1, 5, 9})
		// It gets dearer and cheaper.
		for _, bits := range []uint32{bitsOf(7), 0x4c000000, greatest, many, one, 0, least, greatest, c.in} {
			p.wantErrno(p.reweigh(1, bits), api.OK)
			p.wantDist(3, bits)
		}
		// A dearer one stays, at another place.
		p.insertAll(api.Edge{E: 20, U: 0, V: 4, Bits: greatest})
		p.delete(1)
		p.wantDist(4, greatest)
		p.wantReached(0, 1, 2, 3, 4, 5)
		p.delete(20)
		p.wantReached(0)
	}
}

// A ring of weight 0 goes round through the vertex at which the edge begins that goes.
func TestRingsThroughTheSource(t *testing.T) {
	for _, bits := range []uint32{0, minus0} {
		p := newPair(t, 0)
		p.addVertices(1, 2, 3)
		for u := range 4 {
			for v := range 4 {
				p.insertAll(api.Edge{E: 1 + 4*u + v, U: u, V: v, Bits: bits})
			}
		}
		for v := range 4 {
			p.wantDist(v, 0)
		}
		for e := 1; e <= 16; e++ {
			p.delete(e)
		}
		p.wantReached(0)
	}
}

// Sums that rounding swallows: what gets dearer and costs no more holds, and what gets cheaper and costs no less changes nothing.
func TestSwallowed(t *testing.T) {
	p := newPair(t, 1)
	p.addVertices(2, 3, 4)
	p.insertAll(edge(1, 1, 2, 16777216), edge(2, 2, 3, 1), edge(3, 3, 4, 1))
	p.wantDist(4, many)
	p.reweigh(2, 0)
	p.wantTouched(0, 0)
	p.reweigh(2, one) // No path is dearer, so none is looked for, though the document would let one.
	p.wantDist(4, many)
	p.wantTouched(0, 0)
	p.reweigh(2, two)
	p.wantDist(3, many+1)
	p.wantDist(4, many+2)
	p.reweigh(2, one)
	p.wantDist(4, many)
	p.wantTouched(2, 2)
	// As cheap another way, whose edges aren't swallowed.
	p.insertAll(edge(4, 1, 4, 16777216))
	p.wantTouched(0, 0)
	p.delete(3)
	p.wantPath(4, []int{4})
	p.insertAll(edge(3, 3, 4, 1))
	p.wantTouched(0, 0)
	p.reweigh(4, many+1)
	p.wantPath(4, []int{1, 2, 3})
	p.wantDist(4, many)
	// What is swallowed here counts where the way to it is short.
	p.reweigh(1, one)
	p.wantDist(4, three)
	p.wantTouched(3, 3)
	p.reweigh(1, many-1) // Below 2^24 there is room for one more, and no room for two.
	p.wantDist(3, many)
	p.wantDist(4, many)
}

func TestReweighToTheSame(t *testing.T) {
	p := fan(t, 7, 3, 3, 7)
	for e, x := range p.g.es {
		p.wantErrno(p.reweigh(e, x.Bits), api.OK)
		p.wantTouched(0, 0)
	}
}

// Of an edge that is the last of a path, and of one that isn't.
func TestReweigh(t *testing.T) {
	p := newPair(t, 1)
	p.addVertices(2, 3, 4)
	p.insertAll(edge(1, 1, 2, 4), edge(2, 1, 2, 6), edge(3, 2, 3, 1), edge(4, 1, 3, 8), edge(5, 4, 3, 1))
	p.reweigh(1, bitsOf(3)) // The last one gets cheaper.
	p.wantDist(3, bitsOf(4))
	p.wantTouched(2, 2)
	p.reweigh(1, bitsOf(5)) // Dearer, and still the cheapest.
	p.wantPath(3, []int{1, 3})
	p.wantDist(3, bitsOf(6))
	p.wantTouched(2, 2)
	p.reweigh(1, bitsOf(9)) // Dearer than another.
	p.wantPath(3, []int{2, 3})
	p.wantTouched(2, 2)
	p.reweigh(1, bitsOf(7)) // It isn't the last now: cheaper, and no help.
	p.wantTouched(0, 0)
	p.reweigh(1, bitsOf(6)) // As cheap as the last one.
	p.wantTouched(0, 0)
	p.wantPath(2, []int{2})
	p.reweigh(1, bitsOf(8)) // Dearer.
	p.wantTouched(0, 0)
	p.reweigh(4, bitsOf(50))
	p.wantTouched(0, 0)
	p.reweigh(1, bitsOf(2)) // Cheaper than the last one.
	p.wantPath(3, []int{1, 3})
	p.wantTouched(2, 2)
	p.reweigh(4, bitsOf(1))
	p.wantPath(3, []int{4})
	p.wantTouched(1, 1)
	p.reweigh(5, 0) // Where no walk leads.
	p.wantTouched(0, 0)
	p.reweigh(5, greatest)
	p.wantTouched(0, 0)
	p.reweigh(1, greatest)
	p.reweigh(2, greatest)
	p.wantDist(2, greatest)
	p.wantDist(3, one)
}

func TestTouchedAheadOfTheFirst(t *testing.T) {
	p := newPair(t, 1)
	p.wantTouched(0, 0)
	p.addVertices(2, 3)
	p.wantTouched(0, 0)
	p.dropVertex(3)
	p.wantTouched(0, 0)
	p.insert(edge(1, 1, 3, 1))
	p.wantTouched(0, 0)
	p.delete(1)
	p.wantTouched(0, 0)
	p.reweigh(1, 0)
	p.wantTouched(0, 0)
}

// It tells of the last edit of an edge that was done, whatever was refused and asked behind it.
func TestTouchedStays(t *testing.T) {
	p := newPair(t, 1)
	p.addVertices(2, 3, 4)
	p.insertAll(edge(2, 2, 3, 1), edge(1, 1, 2, 1))
	stays := func() {
		t.Helper()
		p.wantTouched(2, 2)
	}
	stays()
	p.wantErrno(p.insert(edge(0, 1, 2, 0)), api.ErrRange)
	stays()
	p.wantErrno(p.insert(edge(1, 1, 2, 0)), api.ErrTwice)
	stays()
	p.wantErrno(p.insert(edge(3, 1, 9, 0)), api.ErrNoVertex)
	stays()
	p.wantErrno(p.insert(edge(3, 1, 2, -1)), api.ErrBadWeight)
	stays()
	p.wantErrno(p.delete(3), api.ErrNoEdge)
	stays()
	p.wantErrno(p.reweigh(3, 0), api.ErrNoEdge)
	stays()
	p.wantErrno(p.reweigh(1, plusInf), api.ErrBadWeight)
	stays()
	p.want(p.addVertex(5), true)
	stays()
	p.want(p.addVertex(5), false)
	stays()
	p.want(p.dropVertex(5), true)
	stays()
	p.want(p.dropVertex(2), false)
	stays()
	p.insertAll(edge(3, 1, 2, 1))
	p.wantTouched(0, 0)
	p.delete(1)
	p.delete(3)
	stays()
	p.insertAll(edge(3, 4, 2, 1))
	p.wantTouched(0, 0)
}

// Vertices to which no walk leads or led aren't touched, be they many, and be edges there.
func TestFarVerticesAreNotTouched(t *testing.T) {
	p := newPair(t, 0).wide()
	for v := 1; v <= 40; v++ {
		p.addVertices(v)
	}
	for v := 10; v < 40; v++ {
		p.insertAll(edge(v, v, v+1, 1), edge(100+v, v, 1, 1))
	}
	p.insertAll(edge(1, 0, 1, 1))
	p.wantTouched(1, 1)
	p.delete(1)
	p.wantTouched(1, 1)
	p.insertAll(edge(1, 0, 40, 1))
	p.wantTouched(1, 1)
	p.delete(1)
	p.wantTouched(1, 1)
	p.insertAll(edge(1, 0, 38, 1))
	p.wantTouched(4, 4)
	p.reweigh(1, two)
	p.wantTouched(4, 4)
	p.delete(1)
	p.wantTouched(4, 4)
	p.wantReached(0)
}
