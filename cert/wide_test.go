package cert_test

import (
	"math/rand/v2"
	"slices"
	"testing"

	"bramble/api"
	"bramble/cert"
)

// rowOf: n vertices, one behind the other, with edges of this weight, of which the one that enters v has the number v.
func rowOf(n int, bits uint32) plain {
	g := plain{vs: []int{0}}
	for v := 1; v < n; v++ {
		g.vs = append(g.vs, v)
		g.es = append(g.es, edge(v, v-1, v, bits))
	}
	return g
}

// singles: each vertex a list.
func singles(vs []int) [][]int {
	var comps [][]int
	for _, v := range vs {
		comps = append(comps, []int{v})
	}
	return comps
}

func TestLongPath(t *testing.T) {
	const n = 200000
	g := rowOf(n, one)
	arcs := g.arcs()
	comps := singles(g.vs)
	slices.Reverse(comps)
	if !cert.Parts(g.vs, arcs, comps) || cert.Parts(g.vs, arcs, comps[1:]) || cert.Parts(g.vs, arcs, [][]int{g.vs}) {
		t.Error("P15.1: Parts of a long path")
	}
	var ls []api.Label
	for v := range n {
		ls = append(ls, label(v, v, v, n-1))
	}
	accepts := func() bool { return cert.Labels(g.vs, arcs, ls) }
	wantTurned(t, "Labels", ls, accepts, func(l *api.Label) { l.Runs = []api.Span{{Lo: l.V, Hi: n - 2}} })
	wantTurned(t, "Labels", ls, accepts, func(l *api.Label) { l.Runs = []api.Span{{Lo: l.V - 1, Hi: n - 1}} })
}

func TestLongWalks(t *testing.T) {
	const n = 200000
	for _, bits := range []uint32{0, least, many, greatest} {
		g := rowOf(n, bits)
		claimed := api.Tree{}
		cost := uint32(0)
		for v := range n {
			claimed.Dists = append(claimed.Dists, dist(v, cost, v))
			cost = added(cost, bits)
		}
		wantTurned(t, "Tree", claimed.Dists, func() bool { return cert.Tree(g.vs, g.es, claimed) }, func(d *api.Dist) { d.Bits++ })
	}
	g := rowOf(n, 0)
	claimed := api.Tree{}
	for v := range n {
		claimed.Dists = append(claimed.Dists, dist(v, 0, v))
	}
	wantTurned(t, "Tree", claimed.Dists, func() bool { return cert.Tree(g.vs, g.es, claimed) }, func(d *api.Dist) { d.Edge-- })
}

// wantTurned: all is accepted, and not any more when one in the midst is turned.
func wantTurned[T any](t *testing.T, what string, list []T, accepts func() bool, turn func(*T)) {
	t.Helper()
	if !accepts() {
		t.Fatalf("P15.1: %s isn't accepted", what)
	}
	for _, at := range []int{len(list) / 2, len(list) - 2} {
		was := list[at]
		turn(&list[at])
		if accepts() {
			t.Errorf("P15.1: %s is accepted, with %v at %d", what, list[at], at)
		}
		list[at] = was
	}
}

func TestLongRing(t *testing.T) {
	const n = 100000
	g := rowOf(n, one)
	g.es = append(g.es, edge(n, n-1, 0, one))
	arcs := g.arcs()
	comp := slices.Clone(g.vs)
	slices.Reverse(comp)
	if !cert.Parts(g.vs, arcs, [][]int{comp}) || cert.Parts(g.vs, arcs, singles(g.vs)) || cert.Parts(g.vs, arcs, [][]int{comp[1:]}) || cert.Parts(g.vs, arcs, [][]int{comp[:5], comp[5:]}) {
		t.Error("P15.1: Parts of a long ring")
	}
	var ls []api.Label
	for v := range n {
		ls = append(ls, label(v, 3, 3, 3))
	}
	accepts := func() bool { return cert.Labels(g.vs, arcs, ls) }
	wantTurned(t, "Labels", ls, accepts, func(l *api.Label) { l.Runs = nil })
	wantTurned(t, "Labels", ls, accepts, func(l *api.Label) { l.Post = 2 })
	// Each with a number of its own, and one run for all.
	for v := range n {
		ls[v] = label(v, n-v, 1, n)
	}
	wantTurned(t, "Labels", ls, accepts, func(l *api.Label) { l.Runs = []api.Span{{Lo: 2, Hi: n}} })
	wantTurned(t, "Labels", ls, accepts, func(l *api.Label) { l.Post = 0 })
	// A ring of weight 0 to which nothing leads: all its edges hold one another up.
	for i := range g.es {
		g.es[i].Bits = 0
	}
	g.vs = append(g.vs, -1)
	ring, right := api.Tree{Source: -1, Dists: []api.Dist{dist(-1, 0, 0)}}, api.Tree{Source: -1, Dists: []api.Dist{dist(-1, 0, 0)}}
	for v := range n {
		ring.Dists = append(ring.Dists, dist(v, 0, max(v, 1)))
		right.Dists = append(right.Dists, far(v))
	}
	ring.Dists[1].Edge = n
	if cert.Tree(g.vs, g.es, ring) || !cert.Tree(g.vs, g.es, right) {
		t.Error("P15.1: Tree of a long ring to which nothing leads")
	}
	// With an edge that leads to it the distances are right, but the Edges don't come to the source.
	g.es = append(g.es, edge(n+1, -1, 0, 0))
	if cert.Tree(g.vs, g.es, ring) || cert.Tree(g.vs, g.es, right) {
		t.Error("P15.1: Tree of a long ring that holds itself up")
	}
	ring.Dists[1].Edge = n + 1
	if !cert.Tree(g.vs, g.es, ring) {
		t.Error("P15.1: Tree of a long ring")
	}
}

// A wide graph: one vertex leads to all others, and they lead nowhere.
func TestStar(t *testing.T) {
	const n = 20000
	g := plain{vs: []int{-1}}
	ls := []api.Label{label(-1, n, 0, n)}
	claimed := api.Tree{Source: -1, Dists: []api.Dist{dist(-1, 0, 0)}}
	for v := range n {
		g.vs = append(g.vs, v)
		g.es = append(g.es, edge(n-v, -1, v, bitsOf(float32(v%100))))
		ls = append(ls, label(v, v, v, v))
		claimed.Dists = append(claimed.Dists, dist(v, bitsOf(float32(v%100)), n-v))
	}
	arcs := g.arcs()
	if !cert.Parts(g.vs, arcs, singles(g.vs)) {
		t.Error("P15.1: Parts of a star")
	}
	accepts := func() bool { return cert.Labels(g.vs, arcs, ls) }
	wantTurned(t, "Labels", ls, accepts, func(l *api.Label) { l.Runs = []api.Span{{Lo: l.V, Hi: n}} })
	wantTurned(t, "Labels", ls, accepts, func(l *api.Label) { l.Post++ })
	wantTurned(t, "Tree", claimed.Dists, func() bool { return cert.Tree(g.vs, g.es, claimed) }, func(d *api.Dist) { *d = far(d.V) })
	wantTurned(t, "Tree", claimed.Dists, func() bool { return cert.Tree(g.vs, g.es, claimed) }, func(d *api.Dist) { d.Edge++ })
	// Many runs, one for each vertex, the last first.
	ls[0].Runs = nil
	for post := n; post >= 0; post-- {
		ls[0].Runs = append(ls[0].Runs, api.Span{Lo: post, Hi: post})
	}
	if !accepts() {
		t.Error("P15.1: Labels with many runs")
	}
	ls[0].Runs[n/2] = ls[0].Runs[0]
	if accepts() {
		t.Error("P15.1: Labels with many runs, of which one lacks")
	}
}

// Graphs of more vertices than one can go along all walks of, by a plain search and by a search by steps.
func TestDrawnWide(t *testing.T) {
	r := rand.New(rand.NewPCG(15, 31))
	for _, edges := range []int{60, 120, 200, 600} {
		g := drawn(r, 120, edges)
		k := knowBy(g, bySteps)
		ls := wider(r, k, k.labels())
		claimed := k.tree(g.vs[0])
		if !k.tryParts(t, k.comps) || !k.tryLabels(t, ls) || !k.tryTree(t, claimed) {
			t.Fatalf("P15.1: of a graph with %d edges", edges)
		}
		for range 15 {
			at := r.IntN(len(ls))
			was := ls[at]
			ls[at].Runs = ls[at].Runs[:r.IntN(len(ls[at].Runs))]
			k.tryLabels(t, ls)
			ls[at].Runs = append(slices.Clone(was.Runs), api.Span{Lo: 10 * r.IntN(120), Hi: 10 * r.IntN(120)})
			k.tryLabels(t, ls)
			ls[at] = was
			d := &claimed.Dists[r.IntN(120)]
			edge := d.Edge
			d.Edge = g.es[r.IntN(edges)].E
			k.tryTree(t, claimed)
			d.Edge = edge
		}
	}
}
