package tree_test

import (
	"math"
	"slices"
	"testing"

	"bramble/api"
	"bramble/tree"
)

// wantDist holds a distance against what is written out.
func wantDist(t *testing.T, x *tree.Tree, v int, want uint32) {
	t.Helper()
	if bits, errno := x.Dist(v); bits != want || errno != api.OK {
		t.Errorf("P13.1: Dist(%d): %08x, %d, not %08x", v, bits, errno, want)
	}
}

// wantPath holds a path against those that are written out, of which it has to be one, and Last against it.
func wantPath(t *testing.T, x *tree.Tree, v int, paths ...[]int) {
	t.Helper()
	got, errno := x.Path(v)
	if errno != api.OK || !slices.ContainsFunc(paths, func(path []int) bool { return slices.Equal(got, path) }) {
		t.Errorf("P13.2: Path(%d): %v, %d, not one of %v", v, got, errno, paths)
	}
	last := 0
	if len(got) > 0 {
		last = got[len(got)-1]
	}
	if x.Last(v) != last {
		t.Errorf("P13.2: Last(%d): %d, and the path is %v", v, x.Last(v), got)
	}
}

// wantReached holds Reached against what is written out.
func wantReached(t *testing.T, x *tree.Tree, want ...int) {
	t.Helper()
	if got := x.Reached(); !slices.Equal(got, want) {
		t.Errorf("P13.1: Reached: %v, not %v", got, want)
	}
}

// wantDists holds Dists against what is written out.
func wantDists(t *testing.T, x *tree.Tree, want ...api.Dist) {
	t.Helper()
	if got := x.Dists(); !slices.Equal(got, want) {
		t.Errorf("P13.1: Dists: %v, not %v", got, want)
	}
}

// made: the tree of lists without fault, with all it answers held against the chapter's words.
func made(t *testing.T, g plain) *tree.Tree {
	t.Helper()
	try(t, g, byAllWalks)
	return build(t, g)
}

func TestExample(t *testing.T) {
	x := made(t, plain{[]int{1, 2, 3, 4}, []api.Edge{edge(1, 1, 2, 1), edge(2, 2, 3, 1), edge(3, 1, 3, 2), edge(4, 3, 3, 0)}, 1})
	if x.Source() != 1 {
		t.Errorf("P13.1: Source: %d", x.Source())
	}
	wantDist(t, x, 1, 0)
	wantDist(t, x, 2, one)
	wantDist(t, x, 3, 0x40000000)
	wantPath(t, x, 1, nil)
	wantPath(t, x, 2, []int{1})
	wantPath(t, x, 3, []int{1, 2}, []int{3})
	wantNothing(t, x, 4, api.ErrNoPath)
	wantNothing(t, x, 9, api.ErrNoVertex)
	wantReached(t, x, 1, 2, 3)
	wantDists(t, x, api.Dist{V: 1}, api.Dist{V: 2, Bits: one, Edge: 1}, api.Dist{V: 3, Bits: 0x40000000, Edge: x.Last(3)}, api.Dist{V: 4, Far: true})
}

func TestExampleOfRounding(t *testing.T) {
	x := made(t, plain{[]int{1, 2, 3, 4}, []api.Edge{edge(1, 1, 2, 16777216), edge(2, 2, 3, 1), edge(3, 1, 3, 16777216), edge(4, 3, 3, 0)}, 1})
	wantDist(t, x, 2, many)
	wantDist(t, x, 3, many)
	wantPath(t, x, 3, []int{1, 2}, []int{3})
}

func TestExampleOfInfinity(t *testing.T) {
	x := made(t, plain{[]int{1, 2, 3, 4}, []api.Edge{edge(1, 1, 2, 1), edge(3, 1, 3, math.MaxFloat32), edge(4, 3, 3, 0), edge(5, 3, 4, math.MaxFloat32)}, 1})
	wantDist(t, x, 3, greatest)
	wantDist(t, x, 4, plusInf)
	wantPath(t, x, 4, []int{3, 5})
	wantReached(t, x, 1, 2, 3, 4)
}

func TestNumbersOfErrors(t *testing.T) {
	if api.ErrRange != 1 || api.ErrTwice != 2 || api.ErrNoVertex != 5 || api.ErrBadWeight != 7 || api.ErrNoPath != 130 {
		t.Errorf("ErrRange %d, ErrTwice %d, ErrNoVertex %d, ErrBadWeight %d, ErrNoPath %d", api.ErrRange, api.ErrTwice, api.ErrNoVertex, api.ErrBadWeight, api.ErrNoPath)
	}
}

func TestOneVertex(t *testing.T) {
	for _, v := range []int{0, 1, -1, 8, math.MinInt, math.MaxInt} {
		for _, es := range [][]api.Edge{
			nil, {}, make([]api.Edge, 0, 5), {edge(1, v, v, 0)}, {edge(7, v, v, 3)}, {{E: 2, U: v, V: v, Bits: minus0}},
			{edge(math.MaxInt, v, v, math.MaxFloat32)}, {edge(2, v, v, 0), edge(1, v, v, 0)},
		} {
			x := made(t, plain{[]int{v}, es, v})
			wantDist(t, x, v, 0)
			wantPath(t, x, v, nil)
			wantReached(t, x, v)
			wantDists(t, x, api.Dist{V: v})
		}
	}
}

func TestVerticesWithoutEdges(t *testing.T) {
	x := made(t, plain{[]int{5, -1, 3, 0}, nil, 3})
	wantReached(t, x, 3)
	wantDists(t, x, api.Dist{V: -1, Far: true}, api.Dist{V: 0, Far: true}, api.Dist{V: 3}, api.Dist{V: 5, Far: true})
}

// Any ints are vertices, and from 1 on edges, also where a difference of two is none.
func TestEndsOfInt(t *testing.T) {
	least, most := math.MinInt, math.MaxInt
	x := made(t, plain{[]int{most, 0, least, -1}, []api.Edge{edge(most, most, least, 1), edge(1, least, 0, 2), edge(most-1, most, 0, 4)}, most})
	wantPath(t, x, 0, []int{most, 1})
	wantNothing(t, x, -1, api.ErrNoPath)
	wantNothing(t, x, least+1, api.ErrNoVertex)
	wantNothing(t, x, most-1, api.ErrNoVertex)
	wantReached(t, x, least, 0, most)
	wantDists(t, x, api.Dist{V: least, Bits: one, Edge: most}, api.Dist{V: -1, Far: true}, api.Dist{V: 0, Bits: 0x40400000, Edge: 1}, api.Dist{V: most})
	x = made(t, plain{[]int{most, least}, []api.Edge{edge(most, least, most, 0)}, least})
	wantReached(t, x, least, most)
	wantPath(t, x, most, []int{most})
}

// More than MaxId, and below 0: the limits of other layers aren't those of this one.
func TestBeyondOtherLimits(t *testing.T) {
	x := made(t, plain{[]int{api.MaxId + 1, -5}, []api.Edge{edge(api.MaxEdges+1, api.MaxId+1, -5, 1)}, api.MaxId + 1})
	wantPath(t, x, -5, []int{api.MaxEdges + 1})
}

func TestSeveralEdges(t *testing.T) {
	x := made(t, plain{[]int{1, 2}, []api.Edge{edge(1, 1, 2, 3), edge(2, 1, 2, 1), edge(3, 1, 2, 2)}, 1})
	wantDist(t, x, 2, one)
	wantPath(t, x, 2, []int{2})
	x = made(t, plain{[]int{1, 2}, []api.Edge{edge(3, 1, 2, 1), edge(8, 1, 2, 1), edge(5, 1, 2, 1)}, 1})
	wantDist(t, x, 2, one)
	wantPath(t, x, 2, []int{3}, []int{8}, []int{5})
	x = made(t, plain{[]int{1, 2, 3}, []api.Edge{edge(1, 1, 2, 5), edge(2, 2, 3, 7), edge(3, 2, 1, 0), edge(4, 1, 2, 4), edge(5, 2, 3, 6)}, 1})
	wantDist(t, x, 3, bitsOf(10))
	wantPath(t, x, 3, []int{4, 5})
}

// A walk of more edges, or one that is found later, may be the cheaper one.
func TestRoundabout(t *testing.T) {
	x := made(t, plain{[]int{1, 2, 3, 4, 5}, []api.Edge{
		edge(1, 1, 5, 100), edge(2, 1, 2, 1), edge(3, 2, 5, 50), edge(4, 2, 3, 1), edge(5, 3, 5, 20), edge(6, 3, 4, 1), edge(7, 4, 5, 1),
	}, 1})
	wantDist(t, x, 5, bitsOf(4))
	wantPath(t, x, 5, []int{2, 4, 6, 7})
	wantPath(t, x, 4, []int{2, 4, 6})
	// What lies behind 5 comes nearer with it.
	x = made(t, plain{[]int{1, 2, 5, 6}, []api.Edge{edge(1, 1, 5, 9), edge(2, 5, 6, 1), edge(3, 1, 2, 4), edge(4, 2, 5, 4), edge(5, 1, 6, 10)}, 1})
	wantDist(t, x, 6, bitsOf(9))
	wantPath(t, x, 6, []int{3, 4, 2})
}

// Edges lead one way only, and edges that no walk comes to lead nowhere.
func TestWhereNoWalkLeads(t *testing.T) {
	vs := []int{6, 1, 2, 3, 4, 5}
	es := []api.Edge{edge(1, 1, 2, 1), edge(2, 2, 3, 1), edge(3, 3, 1, 1), edge(4, 4, 1, 0), edge(5, 4, 5, 0), edge(6, 5, 4, 0), edge(7, 5, 2, 0)}
	x := made(t, plain{vs, es, 1})
	wantReached(t, x, 1, 2, 3)
	wantDist(t, x, 2, one)
	for _, v := range []int{4, 5, 6} {
		wantNothing(t, x, v, api.ErrNoPath)
	}
	wantReached(t, made(t, plain{vs, es, 4}), 1, 2, 3, 4, 5)
	wantReached(t, made(t, plain{vs, es, 6}), 6)
	// It is reached by others, but reaches nothing itself.
	wantReached(t, made(t, plain{vs, append(es, edge(9, 4, 6, 1)), 6}), 6)
}

func TestWeights(t *testing.T) {
	for _, c := range []struct {
		name string
		bits []uint32
		want uint32
	}{
		{"+0", []uint32{0}, 0},
		{"-0", []uint32{minus0}, 0},
		{"-0 twice", []uint32{minus0, minus0}, 0},
		{"-0 behind another", []uint32{one, minus0}, one},
		{"-0 ahead of another", []uint32{minus0, one}, one},
		{"the least", []uint32{1}, 1},
		{"the least thrice", []uint32{1, 1, 1}, 3},
		{"the greatest without a hidden bit", []uint32{0x007fffff, 1}, 0x00800000},
		{"the greatest", []uint32{greatest}, greatest},
		{"the greatest and 0", []uint32{greatest, 0, minus0}, greatest},
		{"the greatest twice", []uint32{greatest, greatest}, plusInf},
		{"just no overflow", []uint32{greatest, 0x72ffffff}, greatest},
		{"just an overflow", []uint32{greatest, 0x73000000}, plusInf},
		{"behind an overflow", []uint32{greatest, greatest, 0, one}, plusInf},
		{"swallowed at each sum", []uint32{many, one, one, one}, many},
		{"added ahead", []uint32{one, one, many}, 0x4b800001},
		{"rounded to even", []uint32{many, 0x40400000}, 0x4b800002},
	} {
		t.Run(c.name, func(t *testing.T) {
			g := plain{vs: []int{0}}
			var path []int
			for i, bits := range c.bits {
				g.vs = append(g.vs, i+1)
				g.es = append(g.es, api.Edge{E: i + 1, U: i, V: i + 1, Bits: bits})
				path = append(path, i+1)
			}
			x := made(t, g)
			wantDist(t, x, len(c.bits), c.want)
			wantPath(t, x, len(c.bits), path)
			if d := x.Dists()[len(c.bits)]; d != (api.Dist{V: len(c.bits), Bits: c.want, Edge: len(c.bits)}) {
				t.Errorf("P13.1: in Dists: %v", d)
			}
		})
	}
}

// -0 is no cheaper than +0, nor dearer.
func TestBothZeros(t *testing.T) {
	for _, bits := range [][]uint32{{0, minus0}, {minus0, 0}, {minus0, minus0}, {0, 0}} {
		x := made(t, plain{[]int{1, 2}, []api.Edge{{E: 1, U: 1, V: 2, Bits: bits[0]}, {E: 2, U: 1, V: 2, Bits: bits[1]}}, 1})
		wantDist(t, x, 2, 0)
		wantPath(t, x, 2, []int{1}, []int{2})
	}
}

func TestListsInOtherOrders(t *testing.T) {
	vs := []int{1, 2, 3, 4}
	es := []api.Edge{edge(1, 1, 2, 4), edge(2, 1, 3, 1), edge(3, 3, 2, 2), edge(4, 2, 1, 0), edge(5, 2, 2, 1)}
	turns := permutations(len(es))
	for _, places := range permutations(len(vs)) {
		for _, turn := range turns {
			g := plain{s: 1}
			for _, i := range places {
				g.vs = append(g.vs, vs[i])
			}
			for _, i := range turn {
				g.es = append(g.es, es[i])
			}
			x := build(t, g)
			wantPath(t, x, 2, []int{2, 3})
			wantReached(t, x, 1, 2, 3)
			wantDists(t, x, api.Dist{V: 1}, api.Dist{V: 2, Bits: 0x40400000, Edge: 3}, api.Dist{V: 3, Bits: one, Edge: 2}, api.Dist{V: 4, Far: true})
		}
	}
}

// permutations: all orders of the numbers below n.
func permutations(n int) [][]int {
	if n == 0 {
		return [][]int{nil}
	}
	var all [][]int
	for _, rest := range permutations(n - 1) {
		for at := range n {
			all = append(all, slices.Insert(slices.Clone(rest), at, n-1))
		}
	}
	return all
}
