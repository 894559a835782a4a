package tree_test

import (
	"math"
	"slices"
	"testing"

	"bramble/api"
	"bramble/store"
	"bramble/walk"
)

// Rings of weight 0: going round costs nothing, and yet no path does.
func TestRingsOfZero(t *testing.T) {
	for _, bits := range []uint32{0, minus0} {
		g := plain{vs: []int{4, 3, 2, 1, 0}, s: 0}
		for _, pair := range pairsOf(g.vs, true) {
			g.es = append(g.es, api.Edge{E: 1 + len(g.es), U: pair.U, V: pair.V, Bits: bits})
		}
		tryFromAll(t, g)
		x := build(t, g)
		for _, v := range g.vs {
			wantDist(t, x, v, 0)
		}
		wantPath(t, x, 0, nil)
	}
	// A ring beside the way: it is come to, and left where it was entered.
	x := made(t, plain{[]int{1, 2, 3, 4, 5}, []api.Edge{edge(1, 1, 2, 0), edge(2, 2, 3, 0), edge(3, 3, 4, 0), edge(4, 4, 2, 0), edge(5, 2, 5, 1), edge(6, 2, 1, 0)}, 1})
	wantPath(t, x, 5, []int{1, 5})
	wantPath(t, x, 4, []int{1, 2, 3})
}

// Rings whose weights are swallowed by what leads to them.
func TestRingsThatAreSwallowed(t *testing.T) {
	x := made(t, plain{[]int{1, 2, 3, 4, 5}, []api.Edge{edge(1, 1, 2, 16777216), edge(2, 2, 3, 1), edge(3, 3, 4, 1), edge(4, 4, 2, 1), edge(5, 4, 5, 1), edge(6, 2, 2, 1)}, 1})
	for v := 2; v <= 5; v++ {
		wantDist(t, x, v, many)
	}
	wantPath(t, x, 2, []int{1})
	wantPath(t, x, 5, []int{1, 2, 3, 5})
	// From within the ring its weights count.
	x = made(t, plain{[]int{1, 2, 3, 4, 5}, []api.Edge{edge(1, 1, 2, 16777216), edge(2, 2, 3, 1), edge(3, 3, 4, 1), edge(4, 4, 2, 1), edge(5, 4, 5, 1)}, 2})
	wantDist(t, x, 5, bitsOf(3))
}

// All pairs have edges that are swallowed behind the first one, so that all walks cost the same.
func TestAllSwallowed(t *testing.T) {
	g := plain{vs: []int{0, 1, 2, 3, 4, 5}, es: []api.Edge{edge(100, 0, 3, 16777216)}}
	for _, pair := range pairsOf(g.vs[1:], true) {
		g.es = append(g.es, edge(1+len(g.es), pair.U, pair.V, 1))
	}
	x := made(t, g)
	for _, v := range g.vs[1:] {
		wantDist(t, x, v, many)
		if path, _ := x.Path(v); path[0] != 100 {
			t.Errorf("P13.2: Path(%d): %v", v, path)
		}
	}
}

// The cheapest walk goes by the sums that are rounded, not by the exact ones, nor by those from the end.
func TestRoundedSumsDecide(t *testing.T) {
	// Each 1 is swallowed, so the exact sum of the longer walk is greater, and it is cheaper all the same.
	x := made(t, plain{[]int{1, 2, 3, 4, 5}, []api.Edge{edge(1, 1, 2, 16777216), edge(2, 2, 3, 1), edge(3, 3, 4, 1), edge(4, 4, 5, 1), edge(9, 1, 5, 16777218)}, 1})
	wantDist(t, x, 5, many)
	wantPath(t, x, 5, []int{1, 2, 3, 4})
	// The same weights in another order aren't swallowed.
	x = made(t, plain{[]int{1, 2, 3, 4, 5}, []api.Edge{edge(1, 1, 2, 1), edge(2, 2, 3, 1), edge(3, 3, 4, 1), edge(4, 4, 5, 16777216), edge(9, 1, 5, 16777218)}, 1})
	wantDist(t, x, 5, 0x4b800001)
	wantPath(t, x, 5, []int{9})
	// A sum is rounded at each edge, not at the end: else both walks would cost the same.
	x = made(t, plain{[]int{1, 2, 3, 4}, []api.Edge{edge(1, 1, 2, 33554432), edge(2, 2, 3, 2), edge(3, 3, 4, 2), edge(4, 1, 4, 33554436)}, 1})
	wantDist(t, x, 4, bitsOf(33554432))
	wantPath(t, x, 4, []int{1, 2, 3})
}

// What makes a vertex nearer may be swallowed behind it.
func TestNearerIsSwallowed(t *testing.T) {
	x := made(t, plain{[]int{1, 2, 3}, []api.Edge{edge(1, 1, 2, 1), edge(2, 1, 2, 0.5), edge(3, 2, 3, 33554432)}, 1})
	wantDist(t, x, 2, 0x3f000000)
	wantDist(t, x, 3, bitsOf(33554432))
	wantPath(t, x, 3, []int{2, 3})
}

// +Inf is a distance like others, beside vertices to which no walk leads.
func TestDistancesOfInfinity(t *testing.T) {
	most := float32(math.MaxFloat32)
	vs := []int{1, 2, 3, 4, 5, 6, 7}
	es := []api.Edge{edge(1, 1, 2, most), edge(2, 2, 3, most), edge(3, 3, 4, 0), edge(4, 4, 3, 1), edge(5, 4, 4, most), edge(6, 6, 7, 1), edge(7, 7, 3, 0)}
	x := made(t, plain{vs, es, 1})
	wantDist(t, x, 2, greatest)
	wantDist(t, x, 3, plusInf)
	wantDist(t, x, 4, plusInf)
	wantPath(t, x, 3, []int{1, 2})
	wantPath(t, x, 4, []int{1, 2, 3})
	for _, v := range []int{5, 6, 7} {
		wantNothing(t, x, v, api.ErrNoPath)
	}
	wantReached(t, x, 1, 2, 3, 4)
	wantDists(t, x, api.Dist{V: 1}, api.Dist{V: 2, Bits: greatest, Edge: 1}, api.Dist{V: 3, Bits: plusInf, Edge: 2}, api.Dist{V: 4, Bits: plusInf, Edge: 3},
		api.Dist{V: 5, Far: true}, api.Dist{V: 6, Far: true}, api.Dist{V: 7, Far: true})
	// A walk of a finite cost is cheaper, whichever edge comes first.
	x = made(t, plain{vs, append(slices.Clone(es), edge(8, 1, 4, most)), 1})
	wantDist(t, x, 4, greatest)
	wantPath(t, x, 4, []int{8})
	wantDist(t, x, 3, greatest)
	wantPath(t, x, 3, []int{8, 4})
}

// Rings all of whose vertices are at +Inf.
func TestRingsOfInfinity(t *testing.T) {
	g := plain{vs: []int{0, 1, 2, 3, 4, 5}, es: []api.Edge{edge(100, 0, 3, math.MaxFloat32)}}
	for _, pair := range pairsOf(g.vs[1:], true) {
		g.es = append(g.es, edge(1+len(g.es), pair.U, pair.V, math.MaxFloat32))
	}
	x := made(t, g)
	wantDist(t, x, 3, greatest)
	for _, v := range []int{1, 2, 4, 5} {
		wantDist(t, x, v, plusInf)
	}
}

// path: n vertices, one behind the other, with edges of these weights in turn.
func path(n int, bits ...uint32) plain {
	g := plain{vs: []int{0}, s: 0}
	for v := 1; v < n; v++ {
		g.vs = append(g.vs, v)
		g.es = append(g.es, api.Edge{E: v, U: v - 1, V: v, Bits: bits[v%len(bits)]})
	}
	return g
}

func TestLongPath(t *testing.T) {
	const n = 200000
	for _, bits := range []uint32{0, minus0, 1, one, many, greatest} {
		g := path(n, bits)
		slices.Reverse(g.vs)
		slices.Reverse(g.es)
		x := build(t, g)
		dists := x.Dists()
		cost := uint32(0)
		for v := range n {
			if dists[v] != (api.Dist{V: v, Bits: cost, Edge: v}) {
				t.Fatalf("P13.1: in Dists: %v, not %08x", dists[v], cost)
			}
			cost = added(cost, bits)
		}
		all, errno := x.Path(n - 1)
		if len(all) != n-1 || all[0] != 1 || all[n-2] != n-1 || !slices.IsSorted(all) || errno != api.OK {
			t.Errorf("P13.2: %d edges, %d", len(all), errno)
		}
		if reached := x.Reached(); len(reached) != n || reached[n-1] != n-1 {
			t.Errorf("P13.1: %d are reached", len(reached))
		}
		// From its midst only what lies behind is reached.
		g.s = n / 2
		if reached := build(t, g).Reached(); len(reached) != n/2 || reached[0] != n/2 {
			t.Errorf("P13.1: %d are reached", len(reached))
		}
	}
}

// Many walks that cost the same: more than could be gone along one by one.
func TestManyWalks(t *testing.T) {
	g := path(300, one, 0, many)
	for _, x := range slices.Clone(g.es) {
		x.E += 1000
		g.es = append(g.es, x)
	}
	try(t, g, bySteps)
	for _, x := range slices.Clone(g.es[:299]) {
		g.es = append(g.es, api.Edge{E: x.E + 5000, U: x.V, V: x.U, Bits: x.Bits})
	}
	try(t, g, bySteps)
}

// Each vertex is found dear, and made nearer by each of those ahead of it.
func TestManyTimesNearer(t *testing.T) {
	g := plain{vs: []int{0}}
	const n = 60
	for v := 1; v < n; v++ {
		g.vs = append(g.vs, v)
		for u := range v {
			w := float32(1)
			if d := v - u; d > 1 {
				w = float32(d * d)
			}
			g.es = append(g.es, edge(1+len(g.es), u, v, w))
		}
	}
	try(t, g, bySteps)
	x := build(t, g)
	wantDist(t, x, n-1, bitsOf(n-1))
	if all, _ := x.Path(n - 1); len(all) != n-1 {
		t.Errorf("P13.2: %v", all)
	}
}

// A wide graph: one vertex leads to all others, and they lead nowhere.
func TestStar(t *testing.T) {
	g := plain{vs: []int{-1}, s: -1}
	const n = 20000
	for v := range n {
		g.vs = append(g.vs, v)
		g.es = append(g.es, edge(n-v, -1, v, float32(v%100)))
	}
	x := build(t, g)
	for v := range n {
		wantDist(t, x, v, bitsOf(float32(v%100)))
		wantPath(t, x, v, []int{n - v})
	}
	g.s = 5
	wantReached(t, build(t, g), 5)
}

// Paths are walks of chapter 8: they lead there, cost the distance, and have no loops that could be left out.
func TestPathsAreWalks(t *testing.T) {
	s := store.New()
	for v := range 8 {
		s.AddVertex(v)
	}
	for i := range 40 {
		bits := []uint32{one, 0, many, 0x4b800001, greatest}[i%5]
		if _, errno := s.AddEdge(i*3%7, i*5%8, bits); errno != api.OK {
			t.Fatal(errno)
		}
	}
	g := plain{vs: s.Vertices(), s: 2}
	for _, e := range s.Edges() {
		x, _ := s.Edge(e)
		g.es = append(g.es, x)
	}
	try(t, g, bySteps)
	x := build(t, g)
	for _, v := range x.Reached() {
		path, _ := x.Path(v)
		dist, _ := x.Dist(v)
		if end, cost, _, errno := walk.Follow(s, 2, path); end != v || cost != dist || errno != api.OK {
			t.Errorf("P13.2: Path(%d): %v leads to %d and costs %08x, not %08x; %d", v, path, end, cost, dist, errno)
		}
		if simple, _, errno := walk.Simple(s, 2, path); !slices.Equal(simple, path) || errno != api.OK {
			t.Errorf("P13.2: Path(%d): %v, without its loops %v; %d", v, path, simple, errno)
		}
	}
}
