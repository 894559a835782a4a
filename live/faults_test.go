package live_test

import (
	"math"
	"math/rand/v2"
	"testing"

	"bramble/api"
)

// badBits: those of no weight.
func badBits() []uint32 {
	return []uint32{plusInf, 0xff800000, 0x7f800001, 0x7fc00000, 0x7fffffff, 0xffc00000, 0xffffffff, 0x80000001, 0x807fffff, 0xbf800000, 0xff7fffff}
}

// ring: a graph in which a refused call would have something to change.
func ring(t *testing.T) *pair {
	p := newPair(t, 1, 0, 2, 4, -1, math.MinInt, math.MaxInt)
	p.addVertices(5, 9, 7)
	p.insertAll(edge(1, 1, 5, 1), edge(2, 5, 9, 2), edge(7, 9, 1, 0))
	return p
}

func TestInsertOutOfRange(t *testing.T) {
	for _, e := range []int{0, -1, -7, math.MinInt} {
		p := ring(t)
		p.wantErrno(p.insert(edge(e, 1, 5, 0)), api.ErrRange)
		p.wantErrno(p.insert(edge(e, 1, 7, 0)), api.ErrRange)
	}
}

func TestInsertTwice(t *testing.T) {
	p := ring(t)
	for _, e := range []int{1, 2, 7} {
		p.wantErrno(p.insert(p.g.es[e]), api.ErrTwice)
		p.wantErrno(p.insert(edge(e, 1, 7, 0)), api.ErrTwice)
		p.wantErrno(p.insert(edge(e, 1, 5, 0)), api.ErrTwice)
	}
	// A number is free again when its edge is gone; and may be a vertex's too.
	p.delete(7)
	p.wantErrno(p.insert(edge(7, 1, 7, 0)), api.OK)
	p.wantErrno(p.insert(edge(5, 5, 5, 0)), api.OK)
}

func TestInsertWithoutVertex(t *testing.T) {
	for _, v := range []int{0, 2, 3, 4, 6, 8, 10, -1, -5, math.MinInt, math.MaxInt} {
		p := ring(t)
		p.wantErrno(p.insert(edge(3, 1, v, 1)), api.ErrNoVertex)
		p.wantErrno(p.insert(edge(3, v, 1, 1)), api.ErrNoVertex)
		p.wantErrno(p.insert(edge(3, v, v, 1)), api.ErrNoVertex)
		p.wantErrno(p.insert(edge(3, 7, v, 1)), api.ErrNoVertex)
	}
}

func TestBadWeights(t *testing.T) {
	for _, bits := range badBits() {
		p := ring(t)
		p.wantErrno(p.insert(api.Edge{E: 3, U: 1, V: 7, Bits: bits}), api.ErrBadWeight)
		p.wantErrno(p.insert(api.Edge{E: 3, U: 7, V: 1, Bits: bits}), api.ErrBadWeight)
		p.wantErrno(p.insert(api.Edge{E: 3, U: 1, V: 1, Bits: bits}), api.ErrBadWeight)
		for e := range p.g.es {
			p.wantErrno(p.reweigh(e, bits), api.ErrBadWeight)
		}
		p.wantErrno(p.reweigh(3, bits), api.ErrNoEdge)
		// What was refused has no number taken, and no edge of a vertex.
		p.wantErrno(p.delete(3), api.ErrNoEdge)
		p.want(p.dropVertex(7), true)
	}
}

func TestNoEdge(t *testing.T) {
	for _, e := range []int{0, 3, 4, 6, 8, -1, -7, math.MinInt, math.MaxInt} {
		p := ring(t)
		p.wantErrno(p.delete(e), api.ErrNoEdge)
		p.wantErrno(p.reweigh(e, one), api.ErrNoEdge)
		p.wantErrno(p.reweigh(e, plusInf), api.ErrNoEdge)
	}
	p := ring(t)
	p.wantErrno(p.delete(2), api.OK)
	p.wantErrno(p.delete(2), api.ErrNoEdge)
	p.wantErrno(p.reweigh(2, 0), api.ErrNoEdge)
}

// Each mixture of faults: the first that the chapter names is told.
func TestSeveralFaults(t *testing.T) {
	const below, twice, begins, ends, bad = 1, 2, 4, 8, 16
	for faults := range 32 {
		has := func(fault int) bool { return faults&fault != 0 }
		x := edge(3, 1, 7, 1)
		if has(twice) {
			x.E = 2
		}
		if has(below) {
			x.E = 0
		}
		if has(begins) {
			x.U = 8
		}
		if has(ends) {
			x.V = -8
		}
		if has(bad) {
			x.Bits = plusInf
		}
		want := api.OK
		switch {
		case has(below):
			want = api.ErrRange
		case has(twice):
			want = api.ErrTwice
		case has(begins) || has(ends):
			want = api.ErrNoVertex
		case has(bad):
			want = api.ErrBadWeight
		}
		p := ring(t)
		p.wantErrno(p.insert(x), want)
	}
}

// Behind calls that are refused all goes on as if they had never been made, paths and Touched too.
func TestRefusedCallsChangeNothing(t *testing.T) {
	r := rand.New(rand.NewPCG(14, 1))
	bad := badBits()
	for range 60 {
		n := 2 + r.IntN(5)
		first, second := newPair(t, 0, -1, n), newPair(t, 0)
		for v := 1; v < n; v++ {
			first.addVertices(v)
			second.addVertices(v)
		}
		for range 30 {
			call := drawnCall(r, n)
			call(first)
			for e := range first.g.es {
				first.insert(edge(e, r.IntN(n), r.IntN(n), 0))
				first.reweigh(e, bad[r.IntN(len(bad))])
			}
			first.insert(api.Edge{E: 1 << 40, U: r.IntN(n), V: r.IntN(n), Bits: bad[r.IntN(len(bad))]})
			first.insert(edge(1<<40, r.IntN(n), n, 0))
			first.delete(1 << 40)
			first.reweigh(1<<40, 0)
			first.addVertex(0)
			first.dropVertex(0)
			call(second)
			wantAlike(first, second)
		}
	}
}
