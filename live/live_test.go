package live_test

import (
	"math"
	"testing"

	"bramble/api"
)

func TestExample(t *testing.T) {
	p := newPair(t, 1, 0, 2, 3, 4)
	p.want(p.addVertex(2), true)
	p.want(p.addVertex(3), true)
	p.wantErrno(p.insert(edge(1, 1, 2, 1)), api.OK)
	p.wantErrno(p.insert(edge(2, 2, 3, 1)), api.OK)
	p.wantDist(3, two)
	p.wantErrno(p.insert(edge(3, 1, 3, 5)), api.OK)
	p.wantTouched(0, 0)
	p.wantErrno(p.delete(2), api.OK)
	p.wantDist(3, bitsOf(5))
	p.wantPath(3, []int{3})
	p.wantTouched(1, 1)
	p.wantErrno(p.reweigh(3, one), api.OK)
	p.wantDist(3, one)
	p.wantTouched(1, 1)
	p.wantErrno(p.delete(3), api.OK)
	p.wantNothing(3, api.ErrNoPath)
	p.want(p.dropVertex(1), false)
	p.want(p.dropVertex(2), false)
	p.want(p.dropVertex(3), true)
	p.wantNothing(3, api.ErrNoVertex)
	p.wantReached(1, 2)
	p.wantDists(api.Dist{V: 1}, api.Dist{V: 2, Bits: one, Edge: 1})
}

// The examples of chapter 13, with the graph's edges put in one by one.
func TestExamplesOfTheTree(t *testing.T) {
	p := newPair(t, 1, 9)
	p.addVertices(2, 3, 4)
	p.insertAll(edge(1, 1, 2, 1), edge(2, 2, 3, 1), edge(3, 1, 3, 2), edge(4, 3, 3, 0))
	p.wantDist(3, two)
	p.wantPath(3, []int{1, 2}, []int{3})
	p.wantNothing(4, api.ErrNoPath)
	p.wantNothing(9, api.ErrNoVertex)
	p.wantPath(1, nil)
	p.wantReached(1, 2, 3)
	p.reweigh(1, many)
	p.reweigh(3, many)
	p.wantDist(2, many)
	p.wantDist(3, many)
	p.wantPath(3, []int{1, 2}, []int{3})
	p.reweigh(3, greatest)
	p.delete(2)
	p.insertAll(api.Edge{E: 5, U: 3, V: 4, Bits: greatest})
	p.wantDist(4, plusInf)
	p.wantPath(4, []int{3, 5})
}

func TestNumbersOfErrors(t *testing.T) {
	if api.ErrRange != 1 || api.ErrTwice != 2 || api.ErrNoVertex != 5 || api.ErrNoEdge != 6 || api.ErrBadWeight != 7 || api.ErrNoPath != 130 {
		t.Errorf("ErrRange %d, ErrTwice %d, ErrNoVertex %d, ErrNoEdge %d, ErrBadWeight %d, ErrNoPath %d",
			api.ErrRange, api.ErrTwice, api.ErrNoVertex, api.ErrNoEdge, api.ErrBadWeight, api.ErrNoPath)
	}
}

func TestOneVertex(t *testing.T) {
	for _, s := range []int{0, 1, -1, 8, math.MinInt, math.MaxInt} {
		p := newPair(t, s, s-1, s+1, 0)
		p.wantReached(s)
		p.wantDists(api.Dist{V: s})
		p.wantPath(s, nil)
		p.wantTouched(0, 0)
		p.want(p.addVertex(s), false)
		p.want(p.dropVertex(s), false)
		for e, bits := range []uint32{0, minus0, least, one, greatest} {
			p.insertAll(api.Edge{E: 1 + e, U: s, V: s, Bits: bits})
			p.wantTouched(0, 0)
		}
		p.wantDists(api.Dist{V: s})
		p.want(p.dropVertex(s), false)
		for e := 1; e <= 5; e++ {
			p.wantErrno(p.delete(e), api.OK)
			p.wantTouched(0, 0)
		}
		p.want(p.dropVertex(s), false)
		p.wantDists(api.Dist{V: s})
	}
}

// Any ints are vertices, and from 1 on edges, also where a difference of two is none.
func TestEndsOfInt(t *testing.T) {
	lowest, most := math.MinInt, math.MaxInt
	for _, s := range []int{lowest, most, 0} {
		p := newPair(t, s, lowest+1, most-1, -1)
		for _, v := range []int{most, lowest, 0} {
			p.addVertex(v)
		}
		p.insertAll(edge(most, most, lowest, 1), edge(1, lowest, 0, 2), edge(most-1, 0, most, 4))
		p.wantReached(lowest, 0, most)
		p.insertAll(edge(most-2, s, 0, 1), edge(7, lowest, most, 0))
		p.wantReached(lowest, 0, most)
		p.wantErrno(p.insert(edge(most, 0, 0, 1)), api.ErrTwice)
		p.wantErrno(p.insert(edge(lowest, 0, 0, 1)), api.ErrRange)
		p.wantErrno(p.insert(edge(2, most-1, 0, 1)), api.ErrNoVertex)
		p.wantErrno(p.reweigh(most, 0), api.OK)
		p.wantErrno(p.delete(most), api.OK)
		p.wantErrno(p.delete(most), api.ErrNoEdge)
		p.wantErrno(p.delete(lowest), api.ErrNoEdge)
		p.wantErrno(p.reweigh(lowest, 0), api.ErrNoEdge)
		p.delete(1)
		p.delete(most - 1)
		p.delete(most - 2)
		p.delete(7)
		p.want(p.dropVertex(most), s != most)
		p.want(p.dropVertex(lowest), s != lowest)
		p.want(p.dropVertex(0), s != 0)
		p.wantDists(api.Dist{V: s})
	}
	p := newPair(t, most)
	p.addVertices(lowest)
	p.insertAll(edge(most, most, lowest, 1))
	p.wantDists(api.Dist{V: lowest, Bits: one, Edge: most}, api.Dist{V: most})
}

// More than MaxId, MaxVertices and MaxEdges: the limits of other layers aren't those of this one.
func TestBeyondOtherLimits(t *testing.T) {
	p := newPair(t, api.MaxId+1, -6).wide()
	p.addVertices(-5)
	p.insertAll(edge(api.MaxEdges+1, api.MaxId+1, -5, 1))
	p.wantPath(-5, []int{api.MaxEdges + 1})
	for v := range api.MaxVertices + 1 {
		p.want(p.x.AddVertex(v), true)
	}
	for e := 1; e <= api.MaxEdges; e++ {
		p.wantErrno(p.x.Insert(edge(e, -5, e%(api.MaxVertices+1), 1)), api.OK)
	}
	p.wantErrno(p.x.Insert(edge(api.MaxEdges+2, 0, 1, 1)), api.OK)
	if got := len(p.x.Reached()); got != api.MaxVertices+3 {
		t.Errorf("P14.1: %d are reached", got)
	}
}

func TestVertexComesAndGoes(t *testing.T) {
	p := newPair(t, 5, 6, 7)
	for range 3 {
		p.want(p.addVertex(6), true)
		p.want(p.addVertex(6), false)
		p.wantNothing(6, api.ErrNoPath)
		p.insertAll(edge(1, 5, 6, 2))
		p.wantDist(6, two)
		p.want(p.addVertex(6), false)
		p.wantDist(6, two)
		p.want(p.dropVertex(6), false)
		p.delete(1)
		p.want(p.dropVertex(6), true)
		p.want(p.dropVertex(6), false)
		p.wantNothing(6, api.ErrNoVertex)
		p.wantErrno(p.insert(edge(1, 5, 6, 2)), api.ErrNoVertex)
	}
}

func TestDropVertex(t *testing.T) {
	p := newPair(t, 1, 2, 3, 4, 5, 6)
	p.addVertices(2, 3, 4, 5)
	p.want(p.dropVertex(1), false)
	p.want(p.dropVertex(6), false)
	p.want(p.dropVertex(-1), false)
	p.insertAll(edge(1, 2, 3, 1), edge(2, 4, 4, 1))
	p.want(p.dropVertex(2), false) // An edge leaves it.
	p.want(p.dropVertex(3), false) // An edge enters it.
	p.want(p.dropVertex(4), false) // An edge does both.
	p.want(p.dropVertex(5), true)
	p.want(p.dropVertex(1), false) // It is the source, though it has no edge.
	p.delete(2)
	p.want(p.dropVertex(4), true)
	p.insertAll(edge(2, 1, 2, 1))
	p.want(p.dropVertex(3), false) // As before, now that a walk leads there.
	p.delete(1)
	p.want(p.dropVertex(3), true)
	p.want(p.dropVertex(2), false)
	p.delete(2)
	p.want(p.dropVertex(2), true)
	p.want(p.dropVertex(1), false)
	p.wantReached(1)
}

// Of several edges from one vertex to another each one in turn is the cheapest, and goes.
func TestSeveralEdges(t *testing.T) {
	p := newPair(t, 1)
	p.addVertices(2, 3)
	p.insertAll(edge(4, 2, 3, 1), edge(1, 1, 2, 3), edge(2, 1, 2, 1), edge(3, 1, 2, 2))
	p.wantPath(3, []int{2, 4})
	p.delete(2)
	p.wantDist(3, three)
	p.wantPath(3, []int{3, 4})
	p.delete(3)
	p.wantPath(3, []int{1, 4})
	p.insertAll(edge(9, 1, 2, 3), edge(5, 1, 2, 3))
	p.wantTouched(0, 0)
	p.wantPath(2, []int{1})
	p.delete(1)
	p.wantDist(2, three)
	p.wantPath(2, []int{5}, []int{9})
	p.delete(5)
	p.wantPath(2, []int{9})
	p.delete(9)
	p.wantReached(1)
}

func TestEdgeToItself(t *testing.T) {
	p := newPair(t, 1)
	p.addVertices(2, 3)
	p.insertAll(edge(1, 2, 2, 0)) // Where no walk leads.
	p.wantReached(1)
	p.wantTouched(0, 0)
	p.insertAll(edge(2, 1, 2, 3))
	p.insertAll(edge(3, 2, 2, 0), edge(4, 2, 2, 1))
	p.wantTouched(0, 0)
	p.wantPath(2, []int{2})
	p.reweigh(3, one)
	p.wantTouched(0, 0)
	p.reweigh(3, 0)
	p.wantTouched(0, 0)
	p.delete(3)
	p.wantTouched(0, 0)
	p.delete(2) // What is left doesn't hold it up.
	p.wantNothing(2, api.ErrNoPath)
	p.wantTouched(1, 1)
}

// A path of edges of these weights, put in from both ends, taken apart from both ends, and weighed one by one.
func TestWeights(t *testing.T) {
	for _, c := range []struct {
		name string
		bits []uint32
		want uint32
	}{
		{"+0", []uint32{0}, 0},
		{"-0", []uint32{minus0}, 0},
		{"-0 twice", []uint32{minus0, minus0}, 0},
		{"-0 behind another", []uint32{one, minus0}, one},
		{"-0 ahead of another", []uint32{minus0, one}, one},
		{"the least", []uint32{least}, least},
		{"the least thrice", []uint32{least, least, least}, 3},
		{"the greatest without a hidden bit", []uint32{0x007fffff, least}, 0x00800000},
		{"the greatest", []uint32{greatest}, greatest},
		{"the greatest and 0", []uint32{greatest, 0, minus0}, greatest},
		{"the greatest twice", []uint32{greatest, greatest}, plusInf},
		{"just no overflow", []uint32{greatest, 0x72ffffff}, greatest},
		{"just an overflow", []uint32{greatest, 0x73000000}, plusInf},
		{"behind an overflow", []uint32{greatest, greatest, 0, one}, plusInf},
		{"swallowed at each sum", []uint32{many, one, one, one}, many},
		{"added ahead", []uint32{one, one, many}, 0x4b800001},
		{"rounded to even", []uint32{many, 0x40400000}, 0x4b800002},
	} {
		t.Run(c.name, func(t *testing.T) {
			n := len(c.bits)
			at := func(e int) api.Edge { return api.Edge{E: e, U: e - 1, V: e, Bits: c.bits[e-1]} }
			p := newPair(t, 0, n+1)
			for v := 1; v <= n; v++ {
				p.addVertices(v)
			}
			for e := 1; e <= n; e++ {
				p.insertAll(at(e))
			}
			p.wantDist(n, c.want)
			for e := n; e >= 1; e-- {
				p.delete(e)
			}
			for e := n; e >= 1; e-- {
				p.wantReached(0)
				p.insertAll(at(e))
			}
			p.wantTouched(n, n)
			p.wantDist(n, c.want)
			for e := 1; e <= n; e++ {
				for _, bits := range []uint32{0, greatest, one, minus0} {
					p.wantErrno(p.reweigh(e, bits), api.OK)
				}
			}
			p.wantDist(n, 0)
			for e := n; e >= 1; e-- {
				p.wantErrno(p.reweigh(e, c.bits[e-1]), api.OK)
			}
			p.wantDist(n, c.want)
			p.delete(1)
			p.wantReached(0)
		})
	}
}

// -0 is no cheaper than +0, nor dearer.
func TestBothZeros(t *testing.T) {
	p := newPair(t, 1)
	p.addVertices(2, 3)
	p.insertAll(api.Edge{E: 1, U: 1, V: 2, Bits: 0}, api.Edge{E: 2, U: 1, V: 2, Bits: minus0}, api.Edge{E: 3, U: 2, V: 3, Bits: minus0})
	p.wantPath(2, []int{1})
	for _, e := range []int{1, 2} {
		for _, bits := range []uint32{minus0, minus0, 0, 0, minus0} {
			p.wantErrno(p.reweigh(e, bits), api.OK)
			p.wantTouched(0, 0)
		}
	}
	p.delete(1)
	p.wantDists(api.Dist{V: 1}, api.Dist{V: 2, Edge: 2}, api.Dist{V: 3, Edge: 3})
	p.reweigh(2, 1)
	p.wantDist(3, 1)
	p.reweigh(2, minus0)
	p.wantDist(3, 0)
}

// Distances of +Inf, beside vertices to which no walk leads.
func TestInfinity(t *testing.T) {
	p := newPair(t, 1)
	p.addVertices(2, 3, 4, 5)
	big := func(e, u, v int) api.Edge { return api.Edge{E: e, U: u, V: v, Bits: greatest} }
	p.insertAll(big(1, 1, 2), big(2, 2, 3), big(3, 3, 4))
	p.wantTouched(1, 1) // From no walk to one of +Inf.
	p.wantDist(3, plusInf)
	p.wantDist(4, plusInf)
	p.wantNothing(5, api.ErrNoPath)
	p.wantReached(1, 2, 3, 4)
	p.insertAll(big(4, 2, 4)) // +Inf too: no nearer.
	p.wantTouched(0, 0)
	p.wantPath(4, []int{1, 2, 3})
	p.delete(3)
	p.wantPath(4, []int{1, 4})
	p.delete(4)
	p.wantNothing(4, api.ErrNoPath)
	p.insertAll(big(4, 4, 3), big(5, 3, 4)) // A ring of +Inf.
	p.wantDist(4, plusInf)
	p.reweigh(2, 0)
	p.wantDist(3, greatest)
	p.wantDist(4, plusInf)
	p.reweigh(2, greatest)
	p.wantDist(3, plusInf)
	p.delete(2) // The ring doesn't hold itself up.
	p.wantReached(1, 2)
	p.wantTouched(2, 2)
	p.insertAll(big(2, 2, 4))
	p.wantPath(3, []int{1, 2, 4})
	p.reweigh(1, 0)
	p.wantDist(4, greatest)
	p.wantDist(3, plusInf)
	p.delete(1)
	p.wantReached(1)
	p.wantDists(api.Dist{V: 1}, api.Dist{V: 2, Far: true}, api.Dist{V: 3, Far: true}, api.Dist{V: 4, Far: true}, api.Dist{V: 5, Far: true})
}

// Edges lead one way only, and edges that no walk comes to lead nowhere, till one does.
func TestWhereNoWalkLeads(t *testing.T) {
	p := newPair(t, 1)
	p.addVertices(2, 3, 4, 5)
	p.insertAll(edge(1, 2, 1, 0), edge(2, 3, 2, 1), edge(3, 2, 4, 1), edge(4, 4, 3, 1), edge(5, 4, 5, 7))
	p.wantReached(1)
	p.wantTouched(0, 0)
	p.reweigh(2, 0)
	p.wantTouched(0, 0)
	p.reweigh(2, three)
	p.wantTouched(0, 0)
	p.delete(3)
	p.wantTouched(0, 0)
	p.insertAll(edge(6, 1, 4, 1))
	p.wantTouched(4, 4)
	p.wantReached(1, 2, 3, 4, 5)
	p.wantPath(2, []int{6, 4, 2})
	p.wantDist(2, bitsOf(5))
	p.delete(6)
	p.wantReached(1)
	p.wantTouched(4, 4)
}
