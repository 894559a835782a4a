package tree_test

import (
	"math"
	"math/rand/v2"
	"slices"
	"testing"

	"bramble/api"
	"bramble/tree"
)

// plain: what Build is handed.
type plain struct {
	vs []int
	es []api.Edge
	s  int
}

const (
	minus0   = 0x80000000
	one      = 0x3f800000
	many     = 0x4b800000 // 2^24: the sum of it and 1 lies between two
	greatest = 0x7f7fffff
	plusInf  = 0x7f800000
)

// bitsOf: those of a number.
func bitsOf(w float32) uint32 { return math.Float32bits(w) }

// edge: with its weight as a number.
func edge(e, u, v int, w float32) api.Edge { return api.Edge{E: e, U: u, V: v, Bits: bitsOf(w)} }

// added: the bits of a cost and a weight together, worked out with more bits than a float32 has, so that one rounding is made.
func added(cost, w uint32) uint32 {
	if w == minus0 {
		w = 0
	}
	return bitsOf(float32(float64(math.Float32frombits(cost)) + float64(math.Float32frombits(w))))
}

// faultAsTold: the first of the errors that holds of what is handed in.
func faultAsTold(g plain) api.Errno {
	for i, v := range g.vs {
		if slices.Contains(g.vs[:i], v) {
			return api.ErrTwice
		}
	}
	for i, x := range g.es {
		if slices.ContainsFunc(g.es[:i], func(y api.Edge) bool { return y.E == x.E }) {
			return api.ErrTwice
		}
	}
	for _, x := range g.es {
		if x.E < 1 {
			return api.ErrRange
		}
	}
	for _, x := range g.es {
		if !slices.Contains(g.vs, x.U) || !slices.Contains(g.vs, x.V) {
			return api.ErrNoVertex
		}
	}
	if !slices.Contains(g.vs, g.s) {
		return api.ErrNoVertex
	}
	for _, x := range g.es {
		w := math.Float32frombits(x.Bits)
		if w != w || w < 0 || w > math.MaxFloat32 {
			return api.ErrBadWeight
		}
	}
	return api.OK
}

// byAllWalks: the least cost of all walks without loops, of each vertex to which one leads.
func byAllWalks(g plain) map[int]uint32 {
	costs := map[int]uint32{}
	var goOn func(at int, cost uint32, been []int)
	goOn = func(at int, cost uint32, been []int) {
		if slices.Contains(been, at) {
			return
		}
		if least, ok := costs[at]; !ok || cost < least {
			costs[at] = cost
		}
		been = append(slices.Clone(been), at)
		for _, x := range g.es {
			if x.U == at {
				goOn(x.V, added(cost, x.Bits), been)
			}
		}
	}
	goOn(g.s, 0, nil)
	return costs
}

// bySteps: the least cost of all walks, those with loops too: of one edge more at each turn, till no turn makes one cheaper.
func bySteps(g plain) map[int]uint32 {
	costs := map[int]uint32{g.s: 0}
	for again := true; again; {
		again = false
		for _, x := range g.es {
			cost, ok := costs[x.U]
			if !ok {
				continue
			}
			sum := added(cost, x.Bits)
			if least, ok := costs[x.V]; !ok || sum < least {
				costs[x.V], again = sum, true
			}
		}
	}
	return costs
}

// build: the tree of lists without fault.
func build(t *testing.T, g plain) *tree.Tree {
	t.Helper()
	x, errno := tree.Build(g.vs, g.es, g.s)
	if x == nil || errno != api.OK {
		t.Fatalf("P13.1: Build of %v: %v, %d", g, x, errno)
	}
	return x
}

// wantFault: this error, and no tree.
func wantFault(t *testing.T, g plain, want api.Errno) {
	t.Helper()
	if x, errno := tree.Build(g.vs, g.es, g.s); x != nil || errno != want {
		t.Fatalf("P13.1: Build of %v: %v, %d, not %d", g, x, errno, want)
	}
	if told := faultAsTold(g); told != want {
		t.Fatalf("of %v the chapter says %d, not %d", g, told, want)
	}
}

// try holds all that is answered of what is handed in against the chapter's words; distances against those of the model.
func try(t *testing.T, g plain, model func(plain) map[int]uint32) {
	t.Helper()
	if want := faultAsTold(g); want != api.OK {
		wantFault(t, g, want)
		return
	}
	x, costs := build(t, g), model(g)
	tryDists(t, g, x, costs)
	for _, v := range g.vs {
		if _, ok := costs[v]; ok {
			tryPath(t, g, x, v)
		} else {
			wantNothing(t, x, v, api.ErrNoPath)
		}
	}
	for _, v := range strangers(g) {
		wantNothing(t, x, v, api.ErrNoVertex)
	}
	tryDists(t, g, x, costs)
}

// strangers: numbers that are no vertices, next to those that are and far from them.
func strangers(g plain) []int {
	list := []int{math.MinInt, math.MaxInt, 0}
	for _, v := range g.vs {
		list = append(list, v-1, v+1)
	}
	return slices.DeleteFunc(list, func(v int) bool { return slices.Contains(g.vs, v) })
}

// tryDists holds the answers that tell of distances against those of a model.
func tryDists(t *testing.T, g plain, x *tree.Tree, costs map[int]uint32) {
	t.Helper()
	if x.Source() != g.s {
		t.Fatalf("P13.1: Source of %v: %d", g, x.Source())
	}
	var reached []int
	var dists []api.Dist
	for _, v := range slices.Sorted(slices.Values(g.vs)) {
		cost, ok := costs[v]
		if ok {
			reached = append(reached, v)
			if got, errno := x.Dist(v); got != cost || errno != api.OK {
				t.Fatalf("P13.1: Dist(%d) of %v: %08x, %d, not %08x", v, g, got, errno, cost)
			}
		}
		dists = append(dists, api.Dist{V: v, Far: !ok, Bits: cost, Edge: x.Last(v)})
	}
	if got := x.Reached(); !slices.Equal(got, reached) {
		t.Fatalf("P13.1: Reached of %v: %v, not %v", g, got, reached)
	}
	if got := x.Dists(); !slices.Equal(got, dists) {
		t.Fatalf("P13.1: Dists of %v: %v, not %v", g, got, dists)
	}
}

// wantNothing: of v each call tells this error, and nothing beside it.
func wantNothing(t *testing.T, x *tree.Tree, v int, want api.Errno) {
	t.Helper()
	if bits, errno := x.Dist(v); bits != 0 || errno != want {
		t.Fatalf("P13.1: Dist(%d): %08x, %d, not %d", v, bits, errno, want)
	}
	if path, errno := x.Path(v); len(path) != 0 || errno != want {
		t.Fatalf("P13.2: Path(%d): %v, %d, not %d", v, path, errno, want)
	}
	if e := x.Last(v); e != 0 {
		t.Fatalf("P13.2: Last(%d): %d", v, e)
	}
}

// tryPath looks whether the path to v is a walk without loops of edges that are there, costs what Dist says, ends as Last says,
// and goes on from the path to where its last edge begins.
func tryPath(t *testing.T, g plain, x *tree.Tree, v int) {
	t.Helper()
	path, errno := x.Path(v)
	dist, _ := x.Dist(v)
	if errno != api.OK {
		t.Fatalf("P13.2: Path(%d) of %v: %d", v, g, errno)
	}
	stops, cost := along(t, g, path)
	if stops[len(stops)-1] != v || cost != dist {
		t.Fatalf("P13.2: Path(%d) of %v: %v leads to %d and costs %08x, not %08x", v, g, path, stops[len(stops)-1], cost, dist)
	}
	slices.Sort(stops)
	if len(slices.Compact(stops)) != len(path)+1 {
		t.Fatalf("P13.2: Path(%d) of %v: %v comes by %v", v, g, path, stops)
	}
	if len(path) == 0 {
		if x.Last(v) != 0 || v != g.s {
			t.Fatalf("P13.2: Path(%d) of %v is empty, its last edge %d", v, g, x.Last(v))
		}
		return
	}
	last, ahead := path[len(path)-1], path[:len(path)-1]
	if x.Last(v) != last {
		t.Fatalf("P13.2: Last(%d) of %v: %d, and the path is %v", v, g, x.Last(v), path)
	}
	u := g.es[slices.IndexFunc(g.es, func(y api.Edge) bool { return y.E == last })].U
	if got, errno := x.Path(u); !slices.Equal(got, ahead) || errno != api.OK {
		t.Fatalf("P13.2: of %v: Path(%d) is %v, and Path(%d) is %v, %d", g, v, path, u, got, errno)
	}
}

// along: the vertices by which a walk from the source comes, and the bits of its cost.
func along(t *testing.T, g plain, path []int) ([]int, uint32) {
	t.Helper()
	stops, cost := []int{g.s}, uint32(0)
	for _, e := range path {
		at := slices.IndexFunc(g.es, func(y api.Edge) bool { return y.E == e })
		if at < 0 || g.es[at].U != stops[len(stops)-1] {
			t.Fatalf("P13.2: of %v: %v is no walk", g, path)
		}
		stops, cost = append(stops, g.es[at].V), added(cost, g.es[at].Bits)
	}
	return stops, cost
}

// tryFromAll holds the trees from each vertex against the costs of all walks without loops.
func tryFromAll(t *testing.T, g plain) {
	t.Helper()
	for _, s := range g.vs {
		try(t, plain{g.vs, g.es, s}, byAllWalks)
	}
}

// eachGraph makes each graph of these vertices in which a pair that is asked for has one of these bits for its edge, or none.
func eachGraph(vs []int, pairs []api.Arc, kinds []uint32, do func(g plain)) {
	var grow func(es []api.Edge, pair int)
	grow = func(es []api.Edge, pair int) {
		if pair == len(pairs) {
			do(plain{vs: vs, es: es})
			return
		}
		grow(es, pair+1)
		for _, bits := range kinds {
			grow(append(slices.Clone(es), api.Edge{E: 1 + pair, U: pairs[pair].U, V: pairs[pair].V, Bits: bits}), pair+1)
		}
	}
	grow(nil, 0)
}

// pairsOf: each pair of vertices, those of a vertex with itself only if they are asked for.
func pairsOf(vs []int, loops bool) []api.Arc {
	var pairs []api.Arc
	for _, u := range vs {
		for _, v := range vs {
			if u != v || loops {
				pairs = append(pairs, api.Arc{U: u, V: v})
			}
		}
	}
	return pairs
}

func TestEverySmallGraph(t *testing.T) {
	all := []uint32{0, minus0, 1, one, many, 0x4b800001, 0x73000000, greatest}
	for _, c := range []struct {
		vs    []int
		loops bool
		kinds []uint32
	}{
		{[]int{4}, true, all},
		{[]int{9, 4}, true, all},
		{[]int{4, 9, -3}, false, []uint32{0, one, many, greatest}},
		{[]int{4, 9, -3}, true, []uint32{one, many}},
		{[]int{4, -3, 9, 0}, false, []uint32{one}},
	} {
		eachGraph(c.vs, pairsOf(c.vs, c.loops), c.kinds, func(g plain) { tryFromAll(t, g) })
	}
}

// Each graph of four vertices without edges from one to itself, with weights that are drawn.
func TestEveryShapeOfFour(t *testing.T) {
	r := rand.New(rand.NewPCG(13, 1))
	vs := []int{7, -3, 9, 2}
	eachGraph(vs, pairsOf(vs, false), []uint32{0}, func(g plain) {
		for i := range g.es {
			g.es[i].Bits = drawnWeight(r)
		}
		tryFromAll(t, g)
	})
}

// Each list of at most three edges between two vertices, from each of them: several from one to the other, in each order.
func TestEveryListOfEdges(t *testing.T) {
	kinds := []uint32{0, minus0, one, 0x40000000, many, greatest}
	vs := []int{5, -2}
	var grow func(es []api.Edge)
	grow = func(es []api.Edge) {
		tryFromAll(t, plain{vs: vs, es: es})
		if len(es) == 3 {
			return
		}
		for _, bits := range kinds {
			for _, pair := range pairsOf(vs, true) {
				grow(append(slices.Clone(es), api.Edge{E: 10 - len(es), U: pair.U, V: pair.V, Bits: bits}))
			}
		}
	}
	grow(nil)
}

// Each list of at most two vertices and of at most two edges, the wrong ones too.
func TestEverySmallList(t *testing.T) {
	numbers := []int{5, -2, 0}
	lists := [][]int{nil}
	for _, u := range numbers {
		lists = append(lists, []int{u})
		for _, v := range numbers {
			lists = append(lists, []int{u, v})
		}
	}
	var edges []api.Edge
	for e := range 3 {
		for _, pair := range pairsOf(numbers, true) {
			edges = append(edges, api.Edge{E: e, U: pair.U, V: pair.V, Bits: one}, api.Edge{E: e, U: pair.U, V: pair.V, Bits: plusInf})
		}
	}
	for _, vs := range lists {
		for _, s := range numbers {
			try(t, plain{vs, nil, s}, byAllWalks)
			for _, x := range edges {
				try(t, plain{vs, []api.Edge{x}, s}, byAllWalks)
				for _, y := range edges {
					try(t, plain{vs, []api.Edge{x, y}, s}, byAllWalks)
				}
			}
		}
	}
}

// drawnWeight: of all kinds, so that sums are often alike, round, or overflow.
func drawnWeight(r *rand.Rand) uint32 {
	kinds := []uint32{0, minus0, 1, one, 0x40000000, 0x40400000, many, 0x4b800001, 0x33800000, 0x72ffffff, 0x73000000, greatest}
	switch r.IntN(4) {
	case 0:
		return r.Uint32N(plusInf)
	case 1:
		return 0x4a000000 + r.Uint32N(4<<23)
	case 2:
		return bitsOf(float32(1 + r.IntN(4)))
	}
	return kinds[r.IntN(len(kinds))]
}

// drawn: a graph of n vertices in any order, with so many edges, from one of its vertices.
func drawn(r *rand.Rand, n, edges int) plain {
	g := plain{vs: r.Perm(3 * n)[:n]}
	for i, v := range g.vs {
		g.vs[i] = v - n
	}
	for _, e := range r.Perm(2 * edges)[:edges] {
		g.es = append(g.es, api.Edge{E: 1 + e, U: g.vs[r.IntN(n)], V: g.vs[r.IntN(n)], Bits: drawnWeight(r)})
	}
	g.s = g.vs[r.IntN(n)]
	return g
}

// mild: the same graph with weights of one kind, so that no distance is +Inf and most are made of several edges.
func mild(r *rand.Rand, g plain) plain {
	g.es = slices.Clone(g.es)
	for i := range g.es {
		g.es[i].Bits = 0x3f000000 + r.Uint32N(6<<23)
	}
	return g
}

func TestDrawnGraphs(t *testing.T) {
	r := rand.New(rand.NewPCG(13, 2))
	for range 6000 {
		n := 1 + r.IntN(7)
		g := drawn(r, n, r.IntN(2*n+4))
		try(t, g, byAllWalks)
		try(t, mild(r, g), byAllWalks)
	}
	for range 300 {
		n := 10 + r.IntN(60)
		g := drawn(r, n, r.IntN(5*n))
		try(t, g, bySteps)
		try(t, mild(r, g), bySteps)
	}
	g := drawn(r, api.MaxVertices, api.MaxEdges)
	try(t, g, bySteps)
	try(t, mild(r, g), bySteps)
}

// The two ways in which the tests say what a distance is are one: a walk without loops is as cheap as any.
func TestModelsOfDistances(t *testing.T) {
	r := rand.New(rand.NewPCG(13, 3))
	for range 3000 {
		n := 1 + r.IntN(6)
		g := drawn(r, n, r.IntN(2*n+4))
		a, b := byAllWalks(g), bySteps(g)
		if len(a) != len(b) {
			t.Fatalf("%v: %v, %v", g, a, b)
		}
		for v := range a {
			if a[v] != b[v] {
				t.Fatalf("%v: %v, %v", g, a, b)
			}
		}
	}
}

// Drawn graphs with drawn faults.
func TestDrawnFaults(t *testing.T) {
	r := rand.New(rand.NewPCG(13, 4))
	bad := []uint32{plusInf, 0xff800000, 0x7fc00000, 0xffffffff, 0x80000001, 0xbf800000}
	for turn := range 4000 {
		n := 1 + r.IntN(8)
		g := drawn(r, n, 4+r.IntN(2*n))
		if turn&1 != 0 {
			g.es[r.IntN(len(g.es))].Bits = bad[r.IntN(len(bad))]
		}
		if turn&2 != 0 {
			g.es[r.IntN(len(g.es))].V = 5 * n
		}
		if turn&4 != 0 {
			g.s = -2 * n
		}
		if turn&8 != 0 {
			g.es[r.IntN(len(g.es))].E = -r.IntN(3)
		}
		if turn&16 != 0 {
			g.es[r.IntN(len(g.es))].E = g.es[r.IntN(len(g.es))].E
		}
		if turn&32 != 0 {
			g.vs = slices.Insert(g.vs, r.IntN(n+1), g.vs[r.IntN(n)])
		}
		try(t, g, bySteps)
	}
}
