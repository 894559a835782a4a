package cert_test

import (
	"math"
	"slices"
	"testing"

	"bramble/api"
	"bramble/cert"
)

// claim: what would be accepted of the graph beside it.
type claim struct {
	g     plain
	comps [][]int
	ls    []api.Label
	tree  api.Tree
}

// accepted: a graph that has a ring, what it leads to and what leads to it, one vertex beside them, and several edges from one
// vertex to another; with a claim of each kind.
func accepted() claim {
	return claim{
		g:     plain{[]int{5, 1, 9, 4, -3}, []api.Edge{edge(1, 5, 1, one), edge(2, 1, 9, two), edge(7, 9, 5, 0), edge(4, 9, 4, one), edge(5, 9, 4, two)}},
		comps: [][]int{{1, 5, 9}, {4}, {-3}},
		ls:    []api.Label{label(5, 8, 7, 8), label(1, 8, 8, 8, 7, 7), label(9, 8, 6, 9), label(4, 7, 7, 7), label(-3, 2, 2, 2)},
		tree:  api.Tree{Source: 1, Dists: []api.Dist{dist(1, 0, 0), dist(9, two, 2), dist(5, two, 7), dist(4, bitsOf(3), 4), far(-3)}},
	}
}

func TestAllIsAccepted(t *testing.T) {
	c := accepted()
	wantParts(t, c.g, true, c.comps...)
	wantLabels(t, c.g, true, c.ls...)
	wantTree(t, c.g, true, c.tree.Source, c.tree.Dists...)
}

// refused: of these lists no tree is accepted; and neither components nor labels, if the fault is one that arcs have too, while
// they are accepted, if it is one of numbers or weights.
func refused(t *testing.T, what string, c claim, arcsToo bool) {
	t.Helper()
	k := know(c.g)
	if k.goodEdges || k.goodArcs == arcsToo {
		t.Fatalf("%s: the lists are good: %v", what, c.g)
	}
	if cert.Tree(c.g.vs, c.g.es, c.tree) {
		t.Errorf("P15.1: %s: Tree of %v: %v is accepted", what, c.g, c.tree)
	}
	if got := cert.Parts(c.g.vs, k.arcs, c.comps); got == arcsToo {
		t.Errorf("P15.1: %s: Parts of %v: %v: %v", what, c.g, c.comps, got)
	}
	if got := cert.Labels(c.g.vs, k.arcs, c.ls); got == arcsToo {
		t.Errorf("P15.1: %s: Labels of %v: %v: %v", what, c.g, c.ls, got)
	}
}

// Each vertex twice, at each place; with the claims of before, and with those in which it stands twice too.
func TestVertexTwice(t *testing.T) {
	for i, v := range accepted().g.vs {
		for at := range 6 {
			c := accepted()
			c.g.vs = slices.Insert(c.g.vs, at, v)
			refused(t, "a vertex twice", c, true)
			c.ls = append(c.ls, c.ls[slices.IndexFunc(c.ls, func(l api.Label) bool { return l.V == v })])
			c.tree.Dists = append(c.tree.Dists, c.tree.Dists[slices.IndexFunc(c.tree.Dists, func(d api.Dist) bool { return d.V == v })])
			for list := range c.comps {
				if slices.Contains(c.comps[list], v) {
					c.comps[list] = append(c.comps[list], v)
				}
			}
			refused(t, "a vertex twice, in the claims too", c, true)
			c = accepted()
			c.g.vs[i] = c.g.vs[(i+1)%5]
			refused(t, "a vertex twice instead of another", c, true)
		}
	}
	// Nothing else in the lists, and the claims as they would be of two vertices.
	for _, v := range ends {
		c := claim{g: plain{vs: []int{v, v}}, comps: [][]int{{v}, {v}}, ls: []api.Label{label(v, 1, 1, 1), label(v, 1, 1, 1)},
			tree: api.Tree{Source: v, Dists: []api.Dist{dist(v, 0, 0), dist(v, 0, 0)}}}
		refused(t, "twice the same", c, true)
		c.comps, c.ls, c.tree.Dists = c.comps[1:], c.ls[1:], c.tree.Dists[1:]
		refused(t, "twice the same, claimed once", c, true)
		c.comps = [][]int{{v, v}}
		refused(t, "twice the same, claimed twice in one", c, true)
		c.comps, c.ls, c.tree.Dists = nil, nil, nil
		refused(t, "twice the same, and nothing claimed", c, true)
	}
}

// Two edges with one number, though both are good else, and though one of them would do.
func TestEdgeTwice(t *testing.T) {
	for i := range accepted().g.es {
		for j := range i {
			c := accepted()
			c.g.es[i].E = c.g.es[j].E
			for d := range c.tree.Dists {
				if c.tree.Dists[d].Edge == accepted().g.es[i].E {
					c.tree.Dists[d].Edge = c.g.es[j].E
				}
			}
			refused(t, "an edge's number twice", c, false)
		}
		c := accepted()
		c.g.es = append(c.g.es, c.g.es[i])
		refused(t, "an edge twice", c, false)
	}
	for _, e := range []int{1, 3, math.MaxInt} {
		c := accepted()
		c.g.es = append(c.g.es, edge(e, 4, 4, one), edge(e, -3, -3, one))
		refused(t, "an edge's number twice beside the way", c, false)
	}
}

// An edge's number below 1, by which a tree goes or not.
func TestEdgeBelowOne(t *testing.T) {
	for i, x := range accepted().g.es {
		for _, e := range []int{0, -1, -7, math.MinInt} {
			c := accepted()
			c.g.es[i].E = e
			for d := range c.tree.Dists {
				if c.tree.Dists[d].Edge == x.E && c.tree.Dists[d].V == x.V {
					c.tree.Dists[d].Edge = e
				}
			}
			refused(t, "an edge's number below 1", c, false)
		}
	}
	c := accepted()
	c.g.es = append(c.g.es, edge(0, -3, -3, one))
	refused(t, "an edge's number below 1 beside the way", c, false)
}

// An end that is no vertex.
func TestEndIsNoVertex(t *testing.T) {
	for _, v := range []int{0, 2, 3, 6, -4, 10, math.MinInt, math.MaxInt} {
		for i := range accepted().g.es {
			c := accepted()
			c.g.es[i].U = v
			refused(t, "a beginning that is no vertex", c, true)
			c = accepted()
			c.g.es[i].V = v
			refused(t, "an end that is no vertex", c, true)
		}
		for _, x := range []api.Edge{edge(9, v, v, one), edge(9, 4, v, one), edge(9, v, -3, one)} {
			c := accepted()
			c.g.es = append(c.g.es, x)
			refused(t, "an edge more", c, true)
			c.comps = append(c.comps, []int{v})
			c.ls = append(c.ls, label(v, 1, 1, 1))
			c.tree.Dists = append(c.tree.Dists, far(v))
			refused(t, "an edge more, and what is none claimed", c, true)
		}
	}
}

// A weight that isn't admitted: where a tree goes by it, where none does, and where the claims are as if it were none.
func TestBadWeight(t *testing.T) {
	for _, bits := range []uint32{plusInf, 0xff800000, 0x7f800001, 0x7fc00000, 0x7fffffff, 0xffc00000, 0xffffffff, 0x80000001, 0x807fffff, 0xbf800000, 0xff7fffff} {
		for i := range accepted().g.es {
			c := accepted()
			c.g.es[i].Bits = bits
			refused(t, "a weight that isn't admitted", c, false)
		}
		c := accepted()
		c.g.es = append(c.g.es, edge(9, -3, 4, bits), edge(10, 4, 4, bits))
		c.comps, c.ls = know(c.g).comps, know(c.g).labels()
		refused(t, "such a weight where no walk comes by", c, false)
		c = claim{g: plain{[]int{1, 2}, []api.Edge{edge(1, 1, 2, bits)}}, comps: [][]int{{1}, {2}}, ls: []api.Label{label(1, 2, 1, 2), label(2, 1, 1, 1)}}
		for _, d := range []api.Dist{far(2), dist(2, 0, 1), dist(2, bits, 1), dist(2, plusInf, 1)} {
			c.tree = api.Tree{Source: 1, Dists: []api.Dist{dist(1, 0, 0), d}}
			refused(t, "such a weight alone", c, false)
		}
	}
}

// Arcs have no numbers, so the same may come several times; an edge may not.
func TestArcsTwice(t *testing.T) {
	c := accepted()
	for i := range c.g.es {
		g := plain{c.g.vs, append(slices.Clone(c.g.es), c.g.es[i], c.g.es[i])}
		slices.Reverse(g.es)
		wantParts(t, g, true, c.comps...)
		wantLabels(t, g, true, c.ls...)
		wantTree(t, g, false, c.tree.Source, c.tree.Dists...)
	}
}

// permutations: of the numbers below n, each order.
func permutations(n int) [][]int {
	if n == 0 {
		return [][]int{nil}
	}
	var all [][]int
	for _, p := range permutations(n - 1) {
		for at := range n {
			all = append(all, slices.Insert(slices.Clone(p), at, n-1))
		}
	}
	return all
}

// ordered: the things in this order.
func ordered[T any](things []T, order []int) []T {
	var list []T
	for _, i := range order {
		list = append(list, things[i])
	}
	return list
}

// The order of no list makes a difference.
func TestOtherOrders(t *testing.T) {
	c := accepted()
	for _, p := range permutations(5) {
		g := plain{ordered(c.g.vs, p), c.g.es}
		wantParts(t, g, true, c.comps...)
		wantLabels(t, g, true, c.ls...)
		wantTree(t, g, true, c.tree.Source, c.tree.Dists...)
		g = plain{c.g.vs, ordered(c.g.es, p)}
		wantParts(t, g, true, c.comps...)
		wantLabels(t, g, true, c.ls...)
		wantTree(t, g, true, c.tree.Source, c.tree.Dists...)
		wantLabels(t, c.g, true, ordered(c.ls, p)...)
		wantTree(t, c.g, true, c.tree.Source, ordered(c.tree.Dists, p)...)
	}
	for _, p := range permutations(3) {
		for _, q := range permutations(3) {
			wantParts(t, c.g, true, ordered([][]int{ordered([]int{1, 5, 9}, q), {4}, {-3}}, p)...)
		}
	}
}
