package cert_test

import (
	"math"
	"testing"

	"bramble/api"
)

// One Post for several vertices: those of one component may have it, and only those.
func TestOnePost(t *testing.T) {
	ring := plain{[]int{1, 2, 3}, lines(1, 2, 2, 3, 3, 1)}
	wantLabels(t, ring, true, label(1, 0, 0, 0), label(2, 0, 0, 0), label(3, 0, 0, 0))
	wantLabels(t, ring, true, label(1, 4, 0, 9), label(2, 4, 9, 9, 4, 4), label(3, 9, 4, 9))
	wantLabels(t, ring, false, label(1, 4, 0, 9), label(2, 4, 4, 4), label(3, 9, 4, 9))
	wantLabels(t, ring, false, label(1, 0, 0, 0), label(2, 0, 1, 1), label(3, 0, 0, 0))
	path := plain{[]int{1, 2, 3}, lines(1, 2, 2, 3)}
	wantLabels(t, path, true, label(1, 3, 1, 3), label(2, 2, 1, 2), label(3, 1, 1, 1))
	wantLabels(t, path, false, label(1, 2, 1, 2), label(2, 2, 1, 2), label(3, 1, 1, 1))
	wantLabels(t, path, false, label(1, 2, 1, 2), label(2, 1, 1, 1), label(3, 1, 1, 1))
	wantLabels(t, path, false, label(1, 1, 1, 1), label(2, 1, 1, 1), label(3, 1, 1, 1))
	apart := plain{vs: []int{1, 2}}
	wantLabels(t, apart, false, label(1, 1, 1, 1), label(2, 1, 1, 1))
	wantLabels(t, apart, false, label(1, 1, 1, 1), label(2, 1))
	wantLabels(t, apart, true, label(1, 1, 1, 1), label(2, 0, 0, 0))
}

// Runs may overlap, touch, come twice, stand in any order, hold numbers that are no Posts, and have nothing in them.
func TestRunsOfAllKinds(t *testing.T) {
	g := plain{[]int{1, 2, 3}, lines(1, 2)}
	two, three := label(2, 20, 20, 20), label(3, 30, 30, 30)
	for _, runs := range [][]int{
		{10, 10, 20, 20}, {20, 20, 10, 10}, {10, 20}, {10, 20, 10, 20}, {10, 15, 16, 20}, {16, 20, 10, 15}, {5, 18, 12, 29}, {12, 29, 5, 18},
		{math.MinInt, 29}, {31, math.MaxInt, math.MinInt, 29}, {10, 20, 30, 29}, {30, 10, 10, 20}, {math.MaxInt, math.MinInt, 10, 29},
		{10, 10, 11, 9, 20, 20, 40, 50}, {10, 10, 31, 30, 20, 20},
	} {
		wantLabels(t, g, true, label(1, 10, runs...), two, three)
		wantLabels(t, g, true, three, two, label(1, 10, runs...))
	}
	for _, runs := range [][]int{
		{}, {10, 10}, {20, 20}, {11, 20}, {10, 19}, {20, 10}, {10, 30}, {10, 20, 30, 30}, {30, 30, 10, 20}, {math.MinInt, math.MaxInt},
		{10, 10, 20, 19}, {10, 9, 20, 20}, {30, math.MaxInt, 10, 20}, {11, 19}, {10, 10, 11, 19}, {21, 29}, {10, 20, 25, 30}, {5, 18, 12, 31},
	} {
		wantLabels(t, g, false, label(1, 10, runs...), two, three)
		wantLabels(t, g, false, three, two, label(1, 10, runs...))
	}
}

// A Label that lacks, one twice, one of no vertex.
func TestLabelsOfOtherVertices(t *testing.T) {
	g := plain{[]int{1, 2, 3}, lines(1, 2, 2, 3, 3, 1)}
	l := func(v int) api.Label { return label(v, 5, 5, 5) }
	wantLabels(t, g, true, l(1), l(2), l(3))
	wantLabels(t, g, false, l(1), l(2))
	wantLabels(t, g, false)
	wantLabels(t, g, false, l(1), l(2), l(2))
	wantLabels(t, g, false, l(1), l(2), l(3), l(3))
	wantLabels(t, g, false, l(1), l(2), l(4))
	wantLabels(t, g, false, l(1), l(2), l(3), l(4))
	wantLabels(t, g, false, l(0), l(1), l(2), l(3))
	wantLabels(t, g, false, l(1), l(2), l(3), label(4, 6))
	wantLabels(t, g, false, l(1), l(2), l(3), api.Label{})
	wantLabels(t, g, false, l(1), l(1), l(1))
	// The same where the Post of the one too many is in no run, and where its runs have no Post in them.
	for _, post := range []int{4, 5, 6, math.MinInt, math.MaxInt} {
		for _, v := range []int{1, 2, 3, 4, 0} {
			for _, runs := range [][]int{nil, {5, 5}, {post, post}, {5, 5, post, post}} {
				wantLabels(t, g, false, l(1), l(2), l(3), label(v, post, runs...))
				wantLabels(t, g, false, label(v, post, runs...), l(1), l(2), l(3))
			}
		}
	}
	wantLabels(t, g, false, l(1), l(2), l(math.MaxInt))
}

// Rings of weight 0 whose edges hold one another up, where nothing leads and where something does.
func TestRingsOfZero(t *testing.T) {
	for _, bits := range []uint32{0, minus0} {
		alone := plain{[]int{1, 2, 3}, []api.Edge{edge(1, 2, 3, bits), edge(2, 3, 2, bits)}}
		wantTree(t, alone, true, 1, dist(1, 0, 0), far(2), far(3))
		wantTree(t, alone, false, 1, dist(1, 0, 0), dist(2, 0, 2), dist(3, 0, 1))
		// The distances are right, only the edges lead nowhere.
		g := plain{[]int{1, 2, 3, 4}, []api.Edge{edge(1, 2, 3, bits), edge(2, 3, 2, bits), edge(3, 1, 2, bits), edge(4, 1, 3, bits), edge(5, 2, 2, bits), edge(6, 3, 4, bits), edge(7, 2, 1, bits)}}
		wantTree(t, g, true, 1, dist(1, 0, 0), dist(2, 0, 3), dist(3, 0, 4), dist(4, 0, 6))
		wantTree(t, g, true, 1, dist(1, 0, 0), dist(2, 0, 3), dist(3, 0, 1), dist(4, 0, 6))
		wantTree(t, g, true, 1, dist(1, 0, 0), dist(2, 0, 2), dist(3, 0, 4), dist(4, 0, 6))
		wantTree(t, g, false, 1, dist(1, 0, 0), dist(2, 0, 2), dist(3, 0, 1), dist(4, 0, 6))
		wantTree(t, g, false, 1, dist(1, 0, 0), dist(2, 0, 5), dist(3, 0, 4), dist(4, 0, 6))
		wantTree(t, g, false, 1, dist(1, 0, 0), dist(2, 0, 5), dist(3, 0, 1), dist(4, 0, 6))
		wantTree(t, g, false, 1, dist(1, 0, 7), dist(2, 0, 3), dist(3, 0, 4), dist(4, 0, 6))
		wantTree(t, g, false, 1, dist(1, 0, 0), dist(2, 0, 7), dist(3, 0, 4), dist(4, 0, 6))
		wantTree(t, g, false, 1, dist(1, minus0, 0), dist(2, 0, 3), dist(3, 0, 4), dist(4, 0, 6))
		wantTree(t, g, false, 1, dist(1, 0, 0), dist(2, minus0, 3), dist(3, 0, 4), dist(4, 0, 6))
		// A ring of two and one of one beside each other, and what hangs on them.
		two := plain{[]int{0, 1, 2, 3, 4, 5}, []api.Edge{edge(1, 0, 1, bits), edge(2, 1, 2, bits), edge(3, 2, 1, bits), edge(4, 0, 3, bits), edge(5, 3, 3, bits), edge(6, 2, 4, bits), edge(7, 4, 5, bits), edge(8, 0, 2, bits)}}
		for _, one := range []int{1, 3} {
			for _, other := range []int{2, 8} {
				for _, third := range []int{4, 5} {
					right := third == 4 && (one == 1 || other == 8)
					wantTree(t, two, right, 0, dist(5, 0, 7), dist(4, 0, 6), dist(3, 0, third), dist(2, 0, other), dist(1, 0, one), dist(0, 0, 0))
				}
			}
		}
	}
}

// Rings of weights that are swallowed by what leads to them.
func TestRingsThatAreSwallowed(t *testing.T) {
	g := plain{[]int{1, 2, 3, 4}, []api.Edge{edge(1, 1, 2, many), edge(2, 2, 3, one), edge(3, 3, 4, one), edge(4, 4, 2, one), edge(5, 1, 3, many), edge(6, 3, 3, one), edge(7, 1, 4, 0x4b800001)}}
	wantTree(t, g, true, 1, dist(1, 0, 0), dist(2, many, 1), dist(3, many, 2), dist(4, many, 3))
	wantTree(t, g, true, 1, dist(1, 0, 0), dist(2, many, 4), dist(3, many, 5), dist(4, many, 3))
	wantTree(t, g, false, 1, dist(1, 0, 0), dist(2, many, 4), dist(3, many, 2), dist(4, many, 3))
	wantTree(t, g, false, 1, dist(1, 0, 0), dist(2, many, 1), dist(3, many, 6), dist(4, many, 3))
	// An edge that leads there, but isn't the last of a walk that costs so much; and its own cost isn't the distance.
	wantTree(t, g, false, 1, dist(1, 0, 0), dist(2, many, 1), dist(3, many, 2), dist(4, many, 7))
	wantTree(t, g, false, 1, dist(1, 0, 0), dist(2, many, 1), dist(3, many, 2), dist(4, 0x4b800001, 7))
	// From within the ring its weights count.
	wantTree(t, g, true, 2, far(1), dist(2, 0, 0), dist(3, one, 2), dist(4, two, 3))
	wantTree(t, g, false, 2, far(1), dist(2, 0, 4), dist(3, one, 2), dist(4, two, 3))
}

// A dearer walk to a vertex on the way may be as cheap at the end; yet its own cost isn't the distance there.
func TestDearerOnTheWay(t *testing.T) {
	g := plain{[]int{1, 2, 3}, []api.Edge{edge(1, 1, 2, one), edge(2, 1, 2, 0x3f000000), edge(3, 2, 3, 0x4c800000), edge(4, 1, 3, 0x4c800000)}}
	top := g.es[2].Bits
	wantTree(t, g, true, 1, dist(1, 0, 0), dist(2, 0x3f000000, 2), dist(3, top, 3))
	wantTree(t, g, true, 1, dist(1, 0, 0), dist(2, 0x3f000000, 2), dist(3, top, 4))
	wantTree(t, g, false, 1, dist(1, 0, 0), dist(2, 0x3f000000, 1), dist(3, top, 3))
	wantTree(t, g, false, 1, dist(1, 0, 0), dist(2, one, 1), dist(3, top, 3))
}

// Sums are rounded at each edge, from the left.
func TestRoundedSums(t *testing.T) {
	g := plain{[]int{1, 2, 3, 4}, []api.Edge{edge(1, 1, 2, many), edge(2, 2, 3, one), edge(3, 3, 4, one), edge(9, 1, 4, 0x4b800001)}}
	wantTree(t, g, true, 1, dist(1, 0, 0), dist(2, many, 1), dist(3, many, 2), dist(4, many, 3))
	wantTree(t, g, false, 1, dist(1, 0, 0), dist(2, many, 1), dist(3, many, 2), dist(4, 0x4b800001, 9))
	wantTree(t, g, false, 1, dist(1, 0, 0), dist(2, many, 1), dist(3, many, 2), dist(4, 0x4b800001, 3))
	other := plain{g.vs, []api.Edge{edge(1, 1, 2, one), edge(2, 2, 3, one), edge(3, 3, 4, many), edge(9, 1, 4, 0x4b800001)}}
	for _, e := range []int{3, 9} {
		wantTree(t, other, true, 1, dist(1, 0, 0), dist(2, one, 1), dist(3, two, 2), dist(4, 0x4b800001, e))
		wantTree(t, other, false, 1, dist(1, 0, 0), dist(2, one, 1), dist(3, two, 2), dist(4, many, e))
	}
}

// Weights of +0, of -0, of the least and of the greatest float32.
func TestWeightsAtTheirEnds(t *testing.T) {
	for _, c := range []struct{ weight, cost, twice uint32 }{{0, 0, 0}, {minus0, 0, 0}, {least, least, 2}, {greatest, greatest, plusInf}} {
		g := plain{[]int{1, 2, 3}, []api.Edge{edge(1, 1, 2, c.weight), edge(2, 2, 3, c.weight)}}
		wantTree(t, g, true, 1, dist(1, 0, 0), dist(2, c.cost, 1), dist(3, c.twice, 2))
		wantTree(t, g, false, 1, dist(1, 0, 0), dist(2, c.cost, 1), dist(3, c.twice+1, 2))
		wantTree(t, g, false, 1, dist(1, 0, 0), dist(2, c.cost^minus0, 1), dist(3, c.twice, 2))
		wantTree(t, g, false, 1, dist(1, 0, 0), dist(2, c.cost, 1), dist(3, c.twice^minus0, 2))
		wantTree(t, g, false, 1, dist(1, 0, 0), dist(2, c.cost, 1), dist(3, c.twice, 1))
		wantTree(t, g, false, 1, dist(1, 0, 0), dist(2, c.cost, 1), far(3))
	}
}

// +Inf is a distance like others, beside vertices to which no walk leads.
func TestDistancesOfInfinity(t *testing.T) {
	g := plain{[]int{1, 2, 3, 4, 5, 6}, []api.Edge{edge(1, 1, 2, greatest), edge(2, 2, 3, greatest), edge(3, 3, 4, 0), edge(4, 4, 3, one), edge(5, 6, 4, 0), edge(6, 2, 4, greatest)}}
	base := []api.Dist{dist(1, 0, 0), dist(2, greatest, 1), dist(3, plusInf, 2), dist(4, plusInf, 3), far(5), far(6)}
	with := func(d api.Dist) []api.Dist {
		var list []api.Dist
		for _, x := range base {
			if x.V == d.V {
				x = d
			}
			list = append(list, x)
		}
		return list
	}
	wantTree(t, g, true, 1, base...)
	wantTree(t, g, true, 1, with(dist(4, plusInf, 6))...)
	for _, d := range []api.Dist{
		far(3), far(4), dist(3, plusInf, 4), dist(3, plusInf, 0), dist(4, plusInf, 5), dist(4, plusInf, 0), dist(3, greatest, 2), dist(3, 0x7fc00000, 2), dist(3, 0xff800000, 2),
		dist(5, plusInf, 0), dist(5, 0, 0), dist(6, plusInf, 0), {V: 5, Far: true, Bits: plusInf}, {V: 5, Far: true, Edge: 1}, {V: 6, Far: true, Edge: 5},
		{V: 3, Far: true, Bits: plusInf, Edge: 2}, {V: 4, Far: true, Bits: plusInf},
	} {
		wantTree(t, g, false, 1, with(d)...)
	}
	// Beside 4's other edge the one from 4 to 3 leads there from outside; else both hold one another up.
	wantTree(t, g, true, 1, dist(1, 0, 0), dist(2, greatest, 1), dist(3, plusInf, 4), dist(4, plusInf, 6), far(5), far(6))
	wantTree(t, g, false, 1, dist(1, 0, 0), dist(2, greatest, 1), dist(3, plusInf, 4), dist(4, plusInf, 3), far(5), far(6))
}

// An edge from where no walk leads is never the last of one, though its weight would do.
func TestEdgeFromAfar(t *testing.T) {
	g := plain{[]int{1, 2, 3}, []api.Edge{edge(1, 1, 2, 0), edge(2, 3, 2, 0)}}
	wantTree(t, g, true, 1, dist(1, 0, 0), dist(2, 0, 1), far(3))
	wantTree(t, g, false, 1, dist(1, 0, 0), dist(2, 0, 2), far(3))
	wantTree(t, g, false, 1, dist(1, 0, 0), dist(2, 0, 2), dist(3, 0, 0))
	wantTree(t, g, false, 1, dist(1, 0, 0), dist(2, 0, 1), dist(3, 0, 2))
}

// An Edge that is none, that ends elsewhere, or that leads back to where it came by.
func TestEdgesThatLeadElsewhere(t *testing.T) {
	g := plain{[]int{1, 2, 3, 4}, []api.Edge{edge(1, 1, 2, one), edge(2, 2, 3, one), edge(3, 3, 2, one), edge(4, 1, 3, two), edge(5, 3, 1, one), edge(6, 3, 4, one)}}
	for _, third := range []int{2, 4} {
		wantTree(t, g, true, 1, dist(1, 0, 0), dist(2, one, 1), dist(3, two, third), dist(4, bitsOf(3), 6))
		for _, e := range []int{0, 3, 4, 5, 7, 1000, -1, math.MaxInt, math.MinInt} {
			wantTree(t, g, false, 1, dist(1, 0, 0), dist(2, one, e), dist(3, two, third), dist(4, bitsOf(3), 6))
		}
		for _, e := range []int{1, 2, 3, 4, 5, 6, 7, -1, math.MaxInt, math.MinInt} {
			wantTree(t, g, false, 1, dist(1, 0, e), dist(2, one, 1), dist(3, two, third), dist(4, bitsOf(3), 6))
		}
		for _, e := range []int{0, 1, 3, 5, 6, 7} {
			wantTree(t, g, false, 1, dist(1, 0, 0), dist(2, one, 1), dist(3, two, e), dist(4, bitsOf(3), 6))
			if e != 6 {
				wantTree(t, g, false, 1, dist(1, 0, 0), dist(2, one, 1), dist(3, two, third), dist(4, bitsOf(3), e))
			}
		}
	}
}

// A Source that is no vertex; a Dist that lacks, one twice, one of no vertex.
func TestDistsOfOtherVertices(t *testing.T) {
	g := plain{[]int{1, 2, 3}, lines(1, 2)}
	wantTree(t, g, true, 1, dist(1, 0, 0), dist(2, one, 1), far(3))
	for _, s := range []int{0, 4, -1, math.MinInt, math.MaxInt} {
		wantTree(t, g, false, s, dist(1, 0, 0), dist(2, one, 1), far(3))
		wantTree(t, g, false, s, far(1), far(2), far(3))
		wantTree(t, g, false, s, dist(s, 0, 0), far(1), far(2), far(3))
	}
	wantTree(t, g, false, 2, dist(1, 0, 0), dist(2, one, 1), far(3))
	wantTree(t, g, false, 3, dist(1, 0, 0), dist(2, one, 1), far(3))
	wantTree(t, g, true, 2, far(1), dist(2, 0, 0), far(3))
	wantTree(t, g, false, 1)
	wantTree(t, g, false, 1, dist(1, 0, 0), dist(2, one, 1))
	wantTree(t, g, false, 1, dist(2, one, 1), far(3))
	wantTree(t, g, false, 1, dist(1, 0, 0), far(3))
	wantTree(t, g, false, 1, dist(1, 0, 0), dist(2, one, 1), far(3), far(3))
	wantTree(t, g, false, 1, dist(1, 0, 0), dist(2, one, 1), far(3), dist(2, one, 1))
	wantTree(t, g, false, 1, dist(1, 0, 0), dist(2, one, 1), dist(2, one, 1))
	wantTree(t, g, false, 1, dist(1, 0, 0), dist(1, 0, 0), far(3))
	wantTree(t, g, false, 1, dist(1, 0, 0), dist(2, one, 1), far(4))
	wantTree(t, g, false, 1, dist(1, 0, 0), dist(2, one, 1), far(3), far(4))
	wantTree(t, g, false, 1, far(0), dist(1, 0, 0), dist(2, one, 1), far(3))
	wantTree(t, g, false, 1, dist(1, 0, 0), dist(2, one, 1), far(3), api.Dist{})
}

// Lists of parts that are none.
func TestPartsThatAreNone(t *testing.T) {
	g := plain{[]int{1, 2, 3, 4, 5}, lines(1, 2, 2, 1, 3, 4, 4, 3, 1, 3, 5, 5)}
	wantParts(t, g, true, []int{1, 2}, []int{3, 4}, []int{5})
	wantParts(t, g, true, []int{5}, []int{4, 3}, []int{2, 1})
	for _, comps := range [][][]int{
		{}, {{}}, {{1, 2}, {3, 4}}, {{1, 2}, {3, 4}, {5}, {}}, {{}, {1, 2}, {3, 4}, {5}}, {{1, 2}, {3, 4}, {}}, {{1, 2}, {3, 4}, {5}, {5}}, {{1, 2}, {3, 4}, {5}, {6}},
		{{1, 2}, {3, 4}, {6}}, {{1, 2}, {3, 4}, {5, 6}}, {{1, 2, 2}, {3, 4}, {5}}, {{1, 1}, {3, 4}, {5}}, {{1, 2}, {3, 4, 1}, {5}}, {{1, 2}, {3, 4}, {5, 5}}, {{1, 2}, {2, 1}, {3, 4}, {5}},
		{{1, 2, 3, 4}, {5}}, {{1, 2}, {3, 4, 5}}, {{1, 2, 3, 4, 5}}, {{1}, {2}, {3, 4}, {5}}, {{1, 2}, {3}, {4}, {5}}, {{1, 3}, {2, 4}, {5}}, {{1, 4}, {2, 3}, {5}}, {{1, 2}, {3, 5}, {4}}, {{1}, {3, 4}, {5}},
		{{1, 2}, {1, 2}, {5}}, {{5}, {5}, {5}}, {{1, 2}, {3, 4}, {math.MaxInt}}, {{math.MinInt, 1, 2}, {3, 4}, {5}}, {nil, nil, nil},
	} {
		wantParts(t, g, false, comps...)
	}
}
