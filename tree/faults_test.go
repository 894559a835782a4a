package tree_test

import (
	"math"
	"testing"

	"bramble/api"
)

// ring: lists without fault.
func ring() plain {
	return plain{[]int{5, 1, 9}, []api.Edge{edge(1, 5, 1, 1), edge(2, 1, 9, 2), edge(7, 9, 5, 0)}, 1}
}

func TestNoVertices(t *testing.T) {
	for _, vs := range [][]int{nil, {}, make([]int, 0, 5)} {
		for _, s := range []int{0, 1, -1, math.MinInt, math.MaxInt} {
			for _, es := range [][]api.Edge{nil, {}, make([]api.Edge, 0, 5)} {
				wantFault(t, plain{vs, es, s}, api.ErrNoVertex)
			}
			wantFault(t, plain{vs, []api.Edge{edge(1, s, s, 0)}, s}, api.ErrNoVertex)
			wantFault(t, plain{vs, []api.Edge{edge(0, s, s, 0)}, s}, api.ErrRange)
			wantFault(t, plain{vs, []api.Edge{edge(1, s, s, 0), edge(1, s, s, 0)}, s}, api.ErrTwice)
		}
	}
}

func TestVertexTwice(t *testing.T) {
	for _, vs := range [][]int{{1, 1}, {1, 2, 1}, {1, 2, 2}, {2, 2, 1}, {1, 2, 3, 4, 5, 6, 2}, {2, 1, 2, 1}, {1, 2, 0, 0}, {math.MinInt, 1, 2, math.MinInt}, {math.MaxInt, 2, 1, math.MaxInt}} {
		wantFault(t, plain{vs, nil, 1}, api.ErrTwice)
		wantFault(t, plain{vs, []api.Edge{edge(1, 1, 1, 1)}, 1}, api.ErrTwice)
	}
}

func TestEdgeTwice(t *testing.T) {
	for _, e := range []int{1, 2, 7, math.MaxInt, 0, -1, math.MinInt} {
		g := ring()
		for _, x := range []api.Edge{edge(e, 5, 1, 1), edge(e, 9, 9, 3)} {
			wantFault(t, plain{g.vs, []api.Edge{x, edge(e, 5, 1, 1)}, 1}, api.ErrTwice)
			wantFault(t, plain{g.vs, []api.Edge{x, edge(4, 1, 5, 1), edge(6, 5, 9, 0), edge(e, 5, 1, 1)}, 1}, api.ErrTwice)
			wantFault(t, plain{g.vs, []api.Edge{edge(4, 1, 5, 1), x, edge(e, 5, 1, 1), edge(6, 5, 9, 0)}, 1}, api.ErrTwice)
		}
	}
	// A number may be a vertex's and an edge's.
	try(t, plain{[]int{1, 2}, []api.Edge{edge(1, 1, 2, 1), edge(2, 2, 1, 1)}, 1}, byAllWalks)
}

func TestEdgeBelowOne(t *testing.T) {
	for _, e := range []int{0, -1, -7, math.MinInt} {
		for at := range 3 {
			g := ring()
			g.es[at].E = e
			wantFault(t, g, api.ErrRange)
		}
	}
}

func TestNoVertex(t *testing.T) {
	for _, other := range []int{0, 2, 3, 6, -5, 10, math.MinInt, math.MaxInt} {
		for at := range 3 {
			g := ring()
			g.es[at].U = other
			wantFault(t, g, api.ErrNoVertex)
			g.es[at].V = other
			wantFault(t, g, api.ErrNoVertex)
			g = ring()
			g.es[at].V = other
			wantFault(t, g, api.ErrNoVertex)
			// That no walk comes to the edge, or that s is no vertex either, makes no difference.
			g.s = other
			wantFault(t, g, api.ErrNoVertex)
		}
	}
}

func TestSourceIsNoVertex(t *testing.T) {
	for _, s := range []int{0, 2, 3, 6, 7, -1, 10, math.MinInt, math.MaxInt} {
		g := ring()
		g.s = s
		wantFault(t, g, api.ErrNoVertex)
		g.es = nil
		wantFault(t, g, api.ErrNoVertex)
	}
}

func TestBadWeight(t *testing.T) {
	for _, bits := range []uint32{plusInf, 0xff800000, 0x7f800001, 0x7fc00000, 0x7fffffff, 0xffc00000, 0xffffffff, 0x80000001, 0x807fffff, 0xbf800000, 0xff7fffff} {
		for at := range 3 {
			g := ring()
			g.es[at].Bits = bits
			wantFault(t, g, api.ErrBadWeight)
		}
		// Where no walk comes by, and from a vertex to itself.
		wantFault(t, plain{[]int{1, 2}, []api.Edge{{E: 1, U: 2, V: 1, Bits: bits}}, 1}, api.ErrBadWeight)
		wantFault(t, plain{[]int{1, 2}, []api.Edge{{E: 1, U: 1, V: 1, Bits: bits}}, 1}, api.ErrBadWeight)
	}
}

// Each mixture of faults, wherever they stand: the first that the chapter names is told.
func TestSeveralFaults(t *testing.T) {
	const vertexTwice, edgeTwice, below, begins, ends, source, bad = 1, 2, 4, 8, 16, 32, 64
	for _, order := range permutations(4) {
		for faults := range 128 {
			g := plain{vs: []int{3, 1, 2}, s: 1}
			es := []api.Edge{edge(4, 1, 2, 1), edge(5, 2, 3, 1), edge(6, 3, 1, 1), edge(7, 1, 3, 1)}
			has := func(fault int) bool { return faults&fault != 0 }
			if has(vertexTwice) {
				g.vs = append(g.vs, 3)
			}
			if has(edgeTwice) {
				es[0].E = es[1].E
			}
			if has(below) {
				es[2].E = 0
			}
			if has(begins) {
				es[1].U = 8
			}
			if has(ends) {
				es[0].V = -8
			}
			if has(source) {
				g.s = 0
			}
			if has(bad) {
				es[3].Bits = plusInf
			}
			for _, i := range order {
				g.es = append(g.es, es[i])
			}
			want := api.OK
			switch {
			case has(vertexTwice) || has(edgeTwice):
				want = api.ErrTwice
			case has(below):
				want = api.ErrRange
			case has(begins) || has(ends) || has(source):
				want = api.ErrNoVertex
			case has(bad):
				want = api.ErrBadWeight
			}
			if want != api.OK {
				wantFault(t, g, want)
			} else {
				try(t, g, byAllWalks)
			}
		}
	}
}

// All faults in one edge, or in each: the order is that of the errors, not that of the list.
func TestFaultsInOneEdge(t *testing.T) {
	worst := api.Edge{E: 0, U: 9, V: 9, Bits: plusInf}
	wantFault(t, plain{[]int{1}, []api.Edge{worst}, 9}, api.ErrRange)
	wantFault(t, plain{[]int{1}, []api.Edge{worst, worst}, 9}, api.ErrTwice)
	wantFault(t, plain{[]int{1, 1}, []api.Edge{worst}, 9}, api.ErrTwice)
	wantFault(t, plain{[]int{1}, []api.Edge{{E: 1, U: 1, V: 1, Bits: plusInf}, edge(2, 1, 9, 1)}, 1}, api.ErrNoVertex)
	wantFault(t, plain{[]int{1}, []api.Edge{{E: 1, U: 1, V: 1, Bits: plusInf}, edge(2, 1, 1, 1)}, 9}, api.ErrNoVertex)
	wantFault(t, plain{[]int{1}, []api.Edge{edge(2, 1, 9, 1), edge(-4, 1, 1, 1)}, 1}, api.ErrRange)
	wantFault(t, plain{[]int{1}, []api.Edge{edge(-4, 1, 1, 1), edge(2, 1, 1, 1), edge(2, 1, 1, 1)}, 1}, api.ErrTwice)
}
