package cert_test

import (
	"math"
	"testing"

	"bramble/api"
	"bramble/cert"
)

// example: the graph of the chapter's examples.
func example() plain { return plain{[]int{1, 2, 3}, lines(1, 2, 2, 1)} }

func TestExamplesOfParts(t *testing.T) {
	g := example()
	wantParts(t, g, true, []int{2, 1}, []int{3})
	wantParts(t, g, false, []int{1, 2, 3})
	wantParts(t, g, false, []int{1}, []int{2}, []int{3})
	wantParts(t, g, false, []int{1, 2}, []int{3}, []int{})
	wantParts(t, g, false, []int{1, 2})
}

func TestExamplesOfLabels(t *testing.T) {
	g := example()
	wantLabels(t, g, true, label(1, 7, 7, 7), label(2, 7, 6, 9), label(3, 5, 5, 5))
	wantLabels(t, g, false, label(1, 7, 7, 7), label(2, 7, 6, 9), label(3, 8, 5, 5))
	wantLabels(t, g, false, label(1, 7, 7, 7), label(2, 7, 6, 9), label(3, 8, 8, 8))
}

func TestExamplesOfTree(t *testing.T) {
	g := example()
	wantTree(t, g, true, 1, dist(1, 0, 0), dist(2, 0x3f800000, 1), far(3))
	wantTree(t, g, false, 1, dist(1, 0, 0), dist(2, 0x3f800000, 0), far(3))
	wantTree(t, g, false, 1, dist(1, 0, 0), dist(2, 0x3f800000, 2), far(3))
	wantTree(t, g, false, 1, dist(1, 0, 2), dist(2, 0x3f800000, 1), far(3))
}

func TestNoVertexAtAll(t *testing.T) {
	for _, vs := range [][]int{nil, {}, make([]int, 0, 5)} {
		for _, es := range [][]api.Edge{nil, {}, make([]api.Edge, 0, 5)} {
			g := plain{vs, es}
			for _, comps := range [][][]int{nil, {}, make([][]int, 0, 5)} {
				if !cert.Parts(vs, g.arcs(), comps) {
					t.Error("P15.1: Parts of nothing")
				}
			}
			for _, ls := range [][]api.Label{nil, {}, make([]api.Label, 0, 5)} {
				if !cert.Labels(vs, g.arcs(), ls) {
					t.Error("P15.1: Labels of nothing")
				}
			}
			wantParts(t, g, false, []int{})
			wantParts(t, g, false, nil)
			wantParts(t, g, false, []int{0})
			wantLabels(t, g, false, label(0, 0, 0, 0))
			wantLabels(t, g, false, api.Label{})
			// There is no source.
			for _, s := range []int{0, 1, -1, math.MinInt, math.MaxInt} {
				wantTree(t, g, false, s)
				wantTree(t, g, false, s, dist(s, 0, 0))
			}
		}
	}
	if cert.Tree(nil, nil, api.Tree{}) {
		t.Error("P15.1: a Tree of nothing")
	}
}

// ends: of int, and numbers next to them.
var ends = []int{math.MinInt, math.MinInt + 1, -1, 0, 1, math.MaxInt - 1, math.MaxInt}

func TestOneVertex(t *testing.T) {
	for _, v := range ends {
		for _, es := range [][]api.Edge{nil, lines(v, v), {edge(1, v, v, 0), edge(2, v, v, minus0), edge(math.MaxInt, v, v, greatest)}} {
			g := plain{[]int{v}, es}
			wantParts(t, g, true, []int{v})
			wantParts(t, g, false)
			wantParts(t, g, false, []int{v, v})
			wantParts(t, g, false, []int{v}, []int{v})
			wantParts(t, g, false, []int{v}, []int{})
			wantParts(t, g, false, []int{}, []int{v})
			wantParts(t, g, false, []int{v ^ 1})
			for _, post := range ends {
				wantLabels(t, g, true, label(v, post, post, post))
				wantLabels(t, g, true, label(v, post, math.MinInt, math.MaxInt))
				wantLabels(t, g, false, label(v, post))
				wantLabels(t, g, false, label(v, post, math.MaxInt, math.MinInt))
				wantLabels(t, g, false, label(v, post, post^1, post^1))
				wantLabels(t, g, false, label(v^1, post, post, post))
				wantLabels(t, g, false, label(v, post, post, post), label(v, post, post, post))
			}
			wantLabels(t, g, false)
			wantTree(t, g, true, v, dist(v, 0, 0))
			wantTree(t, g, false, v)
			wantTree(t, g, false, v, dist(v, 0, 0), dist(v, 0, 0))
			wantTree(t, g, false, v, far(v))
			wantTree(t, g, false, v, dist(v, 0, 1))
			wantTree(t, g, false, v, dist(v, minus0, 0))
			wantTree(t, g, false, v, dist(v^1, 0, 0))
			wantTree(t, g, false, v^1, dist(v, 0, 0))
			wantTree(t, g, false, v^1, dist(v^1, 0, 0))
		}
	}
}

// Vertices, edges' numbers, posts and runs at the ends of int.
func TestEndsOfInt(t *testing.T) {
	low, high := math.MinInt, math.MaxInt
	g := plain{[]int{high, 0, low}, []api.Edge{edge(high, low, high, one), edge(1, high, low, greatest), edge(high-1, high, 0, one)}}
	wantParts(t, g, true, []int{high, low}, []int{0})
	wantParts(t, g, true, []int{0}, []int{low, high})
	wantParts(t, g, false, []int{low}, []int{0, high})
	wantParts(t, g, false, []int{low + 1, high}, []int{0})
	wantLabels(t, g, true, label(low, low, low, high), label(0, high, high, high), label(high, low, low, high))
	wantLabels(t, g, true, label(low, high, high, high, low, low), label(0, low, low, high-1), label(high, high, low, high))
	wantLabels(t, g, false, label(low, high, low+1, high), label(0, low, low, low), label(high, high, low, high))
	wantLabels(t, g, false, label(low, high, low, high-1), label(0, low, low, low), label(high, high, low, high))
	wantLabels(t, g, false, label(low, high, low, high), label(0, low, low, high), label(high, high, low, high))
	wantLabels(t, g, false, label(low, high, high, low), label(0, low, low, low), label(high, high, low, high))
	wantTree(t, g, true, low, dist(low, 0, 0), dist(0, two, high-1), dist(high, one, high))
	wantTree(t, g, false, low, dist(low, 0, 0), dist(0, two, high), dist(high, one, high))
	wantTree(t, g, false, low, dist(low, 0, 0), dist(0, two, high-1), dist(high, one, low))
	wantTree(t, g, true, high, dist(low, greatest, 1), dist(0, one, high-1), dist(high, 0, 0))
}
