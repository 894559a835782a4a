package store_test

import (
	"slices"
	"testing"

	"bramble/api"
)

// full: 256 vertices, 1000 and each third number from there on, in no order.
func full(t *testing.T) *pair {
	t.Helper()
	p := newPair(t)
	for i := range 256 {
		p.must("AddVertex", api.Edge{U: 1000 + 3*(i*77%256)}, api.OK)
	}
	return p
}

// must makes the call of both, which answers this error.
func (p *pair) must(name string, x api.Edge, want api.Errno) {
	p.t.Helper()
	if got := p.do(call{name, x}); got != want {
		p.t.Fatalf("%s %v: error %d, not %d", name, x, got, want)
	}
}

func TestAsManyVertices(t *testing.T) {
	p := full(t)
	p.compare(0, 999, 1001, 1766, 1768)
	for _, v := range []int{0, 999, 1001, 1<<31 - 1} {
		p.must("AddVertex", api.Edge{U: v}, api.ErrTooMany)
	}
	p.must("AddVertex", api.Edge{U: -1}, api.ErrVertex)
	p.must("AddVertex", api.Edge{U: 1 << 31}, api.ErrVertex)
	p.must("AddVertex", api.Edge{U: 1000}, api.ErrTwice)
	p.must("AddVertex", api.Edge{U: 1765}, api.ErrTwice)
	p.compare(0, 999, 1001, 1<<31-1)
	p.must("DropVertex", api.Edge{U: 1300}, api.OK)
	p.must("AddVertex", api.Edge{U: 0}, api.OK)
	p.must("AddVertex", api.Edge{U: 1300}, api.ErrTooMany)
	p.must("DropVertex", api.Edge{U: 1765}, api.OK)
	p.must("AddVertex", api.Edge{U: 1300}, api.OK)
	p.must("AddVertex", api.Edge{U: 1765}, api.ErrTooMany)
	p.compare(0, 1300, 1765)
	for _, v := range slices.Clone(p.m.vertices) {
		p.must("DropVertex", api.Edge{U: v}, api.OK)
	}
	p.compare(0)
	for v := range 256 {
		p.must("AddVertex", api.Edge{U: v}, api.OK)
	}
	p.must("AddVertex", api.Edge{U: 256}, api.ErrTooMany)
	p.compare(256)
}

// crowded: as many vertices and edges as there may be, of which some are the vertices' own.
func crowded(t *testing.T) *pair {
	t.Helper()
	p := full(t)
	for i := range 1024 {
		u, v := p.m.vertices[i*i%256], p.m.vertices[i%199]
		p.must("AddEdge", api.Edge{U: u, V: v, Bits: uint32(i * 1000)}, api.OK)
	}
	return p
}

func TestAsManyEdges(t *testing.T) {
	p := crowded(t)
	p.compare()
	p.must("AddEdge", api.Edge{U: 1000, V: 1003}, api.ErrTooMany)
	p.must("AddEdge", api.Edge{U: 1000, V: 1001}, api.ErrNoVertex)
	p.must("AddEdge", api.Edge{U: 1, V: 1003, Bits: 0xffffffff}, api.ErrNoVertex)
	p.must("AddEdge", api.Edge{U: 1000, V: 1003, Bits: 0xffffffff}, api.ErrBadWeight)
	p.must("PutEdge", api.Edge{E: 1, U: 1000, V: 1003}, api.ErrTwice)
	p.must("PutEdge", api.Edge{E: 1024, U: 1000, V: 1003}, api.ErrTwice)
	p.must("PutEdge", api.Edge{E: 1025, U: 1000, V: 1003}, api.ErrRange)
	p.compare()
	p.must("DropEdge", api.Edge{E: 512}, api.OK)
	wantNumber(t, "Free", p.s.Free(), 512)
	p.must("AddEdge", api.Edge{U: 1000, V: 1000, Bits: 1}, api.OK)
	wantNumber(t, "Free", p.s.Free(), 0)
	p.must("AddEdge", api.Edge{U: 1000, V: 1000, Bits: 1}, api.ErrTooMany)
	p.must("DropEdge", api.Edge{E: 1024}, api.OK)
	p.must("PutEdge", api.Edge{E: 1024, U: 1000, V: 1000, Bits: 1}, api.OK)
	p.must("AddEdge", api.Edge{U: 1000, V: 1000, Bits: 1}, api.ErrTooMany)
	p.compare()
	p.read(0, 1025)
	p.compare()
}

// A graph that is as great as may be goes vertex by vertex.
func TestAsManyEdgesGoWithTheirVertices(t *testing.T) {
	p := crowded(t)
	for i := range 256 {
		p.must("DropVertex", api.Edge{U: 1000 + 3*(i*33%256)}, api.OK)
		if i%16 == 0 {
			p.compare()
		}
	}
	p.compare()
	wantList(t, "Edges", p.s.Edges())
	wantNumber(t, "Writes", p.s.Writes(), 2048)
	wantNumber(t, "Free", p.s.Free(), 1)
}

// One vertex with all edges, which come and go from both ends and from the middle.
func TestAllEdgesOfOneVertex(t *testing.T) {
	p := newPair(t)
	p.must("AddVertex", api.Edge{U: 3}, api.OK)
	p.must("AddVertex", api.Edge{U: 4}, api.OK)
	for i := range 1024 {
		e := 1 + (i*389+500)%1024
		p.must("PutEdge", api.Edge{E: e, U: 3, V: 3 + i%2, Bits: uint32(i)}, api.OK)
	}
	p.must("AddEdge", api.Edge{U: 4, V: 4}, api.ErrTooMany)
	p.compare()
	for i := range 300 {
		p.must("DropEdge", api.Edge{E: 1 + i}, api.OK)
		p.must("DropEdge", api.Edge{E: 1024 - i}, api.OK)
		p.do(call{"DropEdge", api.Edge{E: 512 + i*i%100}})
		p.must("AddEdge", api.Edge{U: 3, V: 4, Bits: 7}, api.OK)
		if i%30 == 0 {
			p.compare()
		}
	}
	p.compare()
	p.must("DropVertex", api.Edge{U: 3}, api.OK)
	p.compare(3)
	wantList(t, "Edges", p.s.Edges())
}
