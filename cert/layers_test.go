package cert_test

import (
	"math/rand/v2"
	"slices"
	"testing"

	"bramble/api"
	"bramble/cert"
	"bramble/cover"
	"bramble/live"
	"bramble/reach"
	"bramble/scc"
	"bramble/tree"
)

// tryLayers: what layers 9 and 11 to 14 answer of a graph is accepted.
func tryLayers(t *testing.T, g plain, sources []int) {
	t.Helper()
	trySCC(t, g)
	tryCover(t, g)
	tryIndex(t, g, indexOf(t, g))
	for _, s := range sources {
		built, errno := tree.Build(g.vs, g.es, s)
		if errno != api.OK {
			t.Fatalf("tree.Build: %d", errno)
		}
		if claim := (api.Tree{Source: built.Source(), Dists: built.Dists()}); !cert.Tree(g.vs, g.es, claim) {
			t.Fatalf("P15.2: of %v: the tree %v isn't accepted", g, claim)
		}
		tryLive(t, g, liveOf(t, g, s))
	}
}

func trySCC(t *testing.T, g plain) {
	t.Helper()
	comps, errno := scc.Of(g.vs, g.arcs())
	if errno != api.OK || !cert.Parts(g.vs, g.arcs(), comps) {
		t.Fatalf("P15.2: of %v: the components %v aren't accepted; %d", g, comps, errno)
	}
}

// tryCover: nodes are the places of vertices, so that the graph is another one; arcs that lead back come into it the other way
// round, each second one by Grow.
func tryCover(t *testing.T, g plain) {
	t.Helper()
	var nodes []int
	var built, grown []api.Arc
	for node := range g.vs {
		nodes = append(nodes, node)
	}
	for i, x := range g.es {
		u, v := slices.Index(g.vs, x.U), slices.Index(g.vs, x.V)
		arc := api.Arc{U: max(u, v), V: min(u, v)}
		switch {
		case u == v:
		case i%2 == 0:
			built = append(built, arc)
		default:
			grown = append(grown, arc)
		}
	}
	c, errno := cover.Build(len(nodes), built)
	if errno != api.OK {
		t.Fatalf("cover.Build: %d", errno)
	}
	wantCover(t, c, nodes, built)
	for _, arc := range grown {
		c.Grow(arc.U, arc.V)
	}
	wantCover(t, c, nodes, append(built, grown...))
}

func wantCover(t *testing.T, c *cover.Cover, nodes []int, arcs []api.Arc) {
	t.Helper()
	var ls []api.Label
	for _, v := range nodes {
		ls = append(ls, api.Label{V: v, Post: c.Post(v), Runs: c.Label(v)})
	}
	if !cert.Labels(nodes, arcs, ls) {
		t.Fatalf("P15.2: of %v: the cover's labels %v aren't accepted", arcs, ls)
	}
}

// indexOf: the reachability index of a graph.
func indexOf(t *testing.T, g plain) *reach.Index {
	t.Helper()
	x := reach.New()
	for _, v := range g.vs {
		x.AddVertex(v)
	}
	for _, y := range g.es {
		if errno := x.AddArc(y.E, y.U, y.V); errno != api.OK {
			t.Fatalf("AddArc: %d", errno)
		}
	}
	return x
}

func tryIndex(t *testing.T, g plain, x *reach.Index) {
	t.Helper()
	var comps [][]int
	for _, head := range x.Heads() {
		comps = append(comps, x.Members(head))
	}
	if !cert.Parts(g.vs, g.arcs(), comps) {
		t.Fatalf("P15.2: of %v: the index's components %v aren't accepted", g, comps)
	}
	var ls []api.Label
	for _, v := range g.vs {
		ls = append(ls, api.Label{V: v, Post: x.Post(v), Runs: x.Label(v)})
	}
	if !cert.Labels(g.vs, g.arcs(), ls) {
		t.Fatalf("P15.2: of %v: the index's labels %v aren't accepted", g, ls)
	}
}

// liveOf: the tree of a graph that is made edit by edit.
func liveOf(t *testing.T, g plain, s int) *live.Live {
	t.Helper()
	x := live.New(s)
	for _, v := range g.vs {
		x.AddVertex(v)
	}
	for _, y := range g.es {
		if errno := x.Insert(y); errno != api.OK {
			t.Fatalf("Insert: %d", errno)
		}
	}
	return x
}

func tryLive(t *testing.T, g plain, x *live.Live) {
	t.Helper()
	if claim := (api.Tree{Source: x.Source(), Dists: x.Dists()}); !cert.Tree(g.vs, g.es, claim) {
		t.Fatalf("P15.2: of %v: the tree %v that is kept right isn't accepted", g, claim)
	}
}

func TestLayersOfSmallGraphs(t *testing.T) {
	for _, c := range []struct {
		vs    []int
		loops bool
		kinds []uint32
	}{
		{[]int{4}, true, []uint32{0, minus0, least, one, greatest}},
		{[]int{9, 4}, true, []uint32{0, one, many, greatest}},
		{[]int{4, 9, -3}, false, []uint32{0, one}},
		{[]int{4, 9, -3}, true, []uint32{one}},
		{[]int{4, -3, 9, 0}, false, []uint32{0}},
	} {
		eachGraph(c.vs, c.loops, c.kinds, func(k *truth) { tryLayers(t, k.g, c.vs[:1]) })
	}
	// No source is there.
	trySCC(t, plain{})
	tryCover(t, plain{})
	tryIndex(t, plain{}, reach.New())
}

func TestLayersOfDrawnGraphs(t *testing.T) {
	r := rand.New(rand.NewPCG(15, 11))
	for range 1500 {
		n := 1 + r.IntN(10)
		g := drawn(r, n, r.IntN(3*n))
		tryLayers(t, g, g.vs)
		tryLayers(t, alike(r, g), g.vs[:1])
	}
	for _, n := range []int{60, 150, api.MaxVertices} {
		for _, edges := range []int{n / 2, n, 2 * n, 4 * n} {
			g := drawn(r, n, edges)
			tryLayers(t, g, g.vs[:3])
			tryLayers(t, alike(r, g), g.vs[:2])
		}
	}
}

// Behind every edit, deletions too.
func TestLayersBehindEdits(t *testing.T) {
	r := rand.New(rand.NewPCG(15, 12))
	for range 150 {
		n := 2 + r.IntN(6)
		g := alike(r, drawn(r, n, n))
		s := g.vs[0]
		index, kept := indexOf(t, g), liveOf(t, g, s)
		for turn := range 30 {
			if len(g.es) > 0 && r.IntN(2) == 0 {
				at := r.IntN(len(g.es))
				index.DropArc(g.es[at].E)
				kept.Delete(g.es[at].E)
				g.es = slices.Delete(slices.Clone(g.es), at, at+1)
			} else {
				x := edge(1000+turn, g.vs[r.IntN(n)], g.vs[r.IntN(n)], drawnWeight(r))
				index.AddArc(x.E, x.U, x.V)
				kept.Insert(x)
				g.es = append(slices.Clone(g.es), x)
			}
			if len(g.es) > 0 {
				g.es = slices.Clone(g.es)
				x := &g.es[r.IntN(len(g.es))]
				x.Bits = drawnWeight(r)
				kept.Reweigh(x.E, x.Bits)
			}
			tryIndex(t, g, index)
			tryLive(t, g, kept)
		}
	}
}

// What was right ahead of an edit is accepted behind it only if it still is.
func TestClaimsOfBefore(t *testing.T) {
	r := rand.New(rand.NewPCG(15, 13))
	var parts, labels, trees both
	for range 2000 {
		n := 1 + r.IntN(6)
		g := alike(r, drawn(r, n, r.IntN(2*n)))
		k := know(g)
		x := edge(1000, g.vs[r.IntN(n)], g.vs[r.IntN(n)], drawnWeight(r))
		more := know(plain{g.vs, append(slices.Clone(g.es), x)})
		for _, two := range [][2]*truth{{k, more}, {more, k}} {
			parts.count(two[1].tryParts(t, two[0].comps))
			labels.count(two[1].tryLabels(t, two[0].labels()))
			trees.count(two[1].tryTree(t, two[0].tree(g.vs[0])))
		}
	}
	parts.look(t, 300)
	labels.look(t, 300)
	trees.look(t, 300)
}
