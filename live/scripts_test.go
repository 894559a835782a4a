package live_test

import (
	"maps"
	"math/rand/v2"
	"slices"
	"testing"

	"bramble/api"
)

// wantAlike: two that were edited by the same calls tell the same, of what is free too.
func wantAlike(first, second *pair) {
	first.t.Helper()
	if first.x.Touched() != second.x.Touched() {
		first.fail("R7: Touched: %d, and %d of the same edits", first.x.Touched(), second.x.Touched())
	}
	if a, b := first.x.Dists(), second.x.Dists(); !slices.Equal(a, b) {
		first.fail("R7: Dists: %v, and %v of the same edits", a, b)
	}
	for v := range first.g.vs {
		a, _ := first.x.Path(v)
		b, _ := second.x.Path(v)
		if !slices.Equal(a, b) {
			first.fail("R7: Path(%d): %v, and %v of the same edits", v, a, b)
		}
	}
}

// drawnWeight: of all kinds, so that sums are often alike, round, or overflow.
func drawnWeight(r *rand.Rand) uint32 {
	kinds := []uint32{0, 0, minus0, least, one, two, three, many, many + 1, 0x33800000, 0x72ffffff, 0x73000000, greatest}
	switch r.IntN(6) {
	case 0:
		return r.Uint32N(plusInf)
	case 1:
		return 0x4a000000 + r.Uint32N(4<<23)
	case 2, 3:
		return bitsOf(float32(1 + r.IntN(4)))
	}
	return kinds[r.IntN(len(kinds))]
}

// drawnCall: an edit of a graph of the vertices below n, or of some of them.
func drawnCall(r *rand.Rand, n int) func(p *pair) {
	e, u, v, bits := 1+r.IntN(2*n+2), r.IntN(n), r.IntN(n), drawnWeight(r)
	switch r.IntN(16) {
	case 0:
		return func(p *pair) { p.dropVertex(v) }
	case 1:
		return func(p *pair) { p.addVertex(v) }
	case 2, 3, 4:
		return func(p *pair) { p.delete(e) }
	case 5, 6, 7:
		return func(p *pair) { p.reweigh(e, bits) }
	}
	return func(p *pair) { p.insert(api.Edge{E: e, U: u, V: v, Bits: bits}) }
}

func TestDrawnScripts(t *testing.T) {
	r := rand.New(rand.NewPCG(14, 2))
	for range 600 {
		n := 1 + r.IntN(6)
		p := newPair(t, r.IntN(n), -1, n)
		for v := range n {
			p.addVertex(v)
		}
		for range 60 {
			drawnCall(r, n)(p)
		}
	}
}

// The same with weights of a few kinds, of which very many walks are equally cheap.
func TestDrawnScriptsOfFewWeights(t *testing.T) {
	r := rand.New(rand.NewPCG(14, 3))
	kinds := [][]uint32{{0}, {0, one}, {one}, {one, two}, {many, one}, {greatest, one, 0}, {greatest}, {many, many + 1, least}}
	for turn := range 600 {
		n := 2 + r.IntN(5)
		p := newPair(t, 0)
		for v := 1; v < n; v++ {
			p.addVertices(v)
		}
		kind := kinds[turn%len(kinds)]
		draw := func() uint32 { return kind[r.IntN(len(kind))] }
		for range 50 {
			switch e := 1 + r.IntN(2*n+2); r.IntN(5) {
			case 0:
				p.delete(e)
			case 1:
				p.reweigh(e, draw())
			default:
				p.insert(api.Edge{E: e, U: r.IntN(n), V: r.IntN(n), Bits: draw()})
			}
		}
	}
}

func TestDrawnScriptsOfWideGraphs(t *testing.T) {
	r := rand.New(rand.NewPCG(14, 4))
	for turn := range 24 {
		n := 10 + r.IntN(40)
		p := newPair(t, 0, -1, n).wide()
		for v := 1; v < n; v++ {
			p.addVertices(v)
		}
		for range 3 * n {
			draw := drawnWeight(r)
			if turn%2 == 0 {
				draw = 0x3f000000 + r.Uint32N(6<<23)
			}
			p.insert(api.Edge{E: 1 + r.IntN(3*n), U: r.IntN(n), V: r.IntN(n), Bits: draw})
		}
		for range 80 {
			drawnCall(r, n)(p)
		}
		for _, e := range slices.Sorted(maps.Keys(p.g.es)) {
			p.delete(e)
		}
		p.wantReached(0)
	}
}

// As many vertices and edges as the whole may have.
func TestDrawnScriptAtTheLimits(t *testing.T) {
	r := rand.New(rand.NewPCG(14, 5))
	p := newPair(t, 0).wide()
	for v := 1; v < api.MaxVertices; v++ {
		p.x.AddVertex(v)
		p.g.vs[v] = 1
	}
	for e := 1; e <= api.MaxEdges; e++ {
		x := api.Edge{E: e, U: r.IntN(api.MaxVertices), V: r.IntN(api.MaxVertices), Bits: 0x3f000000 + r.Uint32N(6<<23)}
		p.wantErrno(p.x.Insert(x), api.OK)
		p.g.es[e] = x
	}
	p.costs, p.touched = p.model(p.g), p.x.Touched()
	p.compare()
	for range 120 {
		e := 1 + r.IntN(api.MaxEdges)
		x := p.g.es[e]
		p.reweigh(e, 0x3f000000+r.Uint32N(6<<23))
		p.delete(e)
		p.insertAll(x)
	}
}

// pairsOf: each pair of the vertices below n, those of a vertex with itself only if they are asked for.
func pairsOf(n int, loops bool) []api.Arc {
	var pairs []api.Arc
	for u := range n {
		for v := range n {
			if u != v || loops {
				pairs = append(pairs, api.Arc{U: u, V: v})
			}
		}
	}
	return pairs
}

// eachGraph goes through each graph in which a pair has one of these bits for its edge, or none, by edits of one thing.
func eachGraph(p *pair, pairs []api.Arc, kinds []uint32, do func()) {
	p.t.Helper()
	if len(pairs) == 0 {
		do()
		return
	}
	last := len(pairs) - 1
	eachGraph(p, pairs[:last], kinds, do)
	for i, bits := range kinds {
		if i == 0 {
			p.insertAll(api.Edge{E: len(pairs), U: pairs[last].U, V: pairs[last].V, Bits: bits})
		} else {
			p.wantErrno(p.reweigh(len(pairs), bits), api.OK)
		}
		eachGraph(p, pairs[:last], kinds, do)
	}
	p.wantErrno(p.delete(len(pairs)), api.OK)
}

// eachEdit makes each edit of one edge, and takes it back: then every distance is what it was.
func eachEdit(p *pair, pairs []api.Arc, kinds []uint32) {
	p.t.Helper()
	distances := maps.Clone(p.costs)
	back := func() {
		p.t.Helper()
		if !maps.Equal(p.costs, distances) {
			p.fail("the distances were %v, and are %v", distances, p.costs)
		}
	}
	for i, pair := range pairs {
		x, there := p.g.es[1+i]
		for _, bits := range kinds {
			if there {
				p.wantErrno(p.reweigh(x.E, bits), api.OK)
				p.wantErrno(p.reweigh(x.E, x.Bits), api.OK)
				back()
			}
			p.insertAll(api.Edge{E: 100, U: pair.U, V: pair.V, Bits: bits})
			p.wantErrno(p.delete(100), api.OK)
			back()
		}
		if there {
			p.wantErrno(p.delete(x.E), api.OK)
			p.insertAll(x)
			back()
		}
	}
}

func TestEveryEditOfEverySmallGraph(t *testing.T) {
	for _, c := range []struct {
		n     int
		loops bool
		kinds []uint32
	}{
		{1, true, []uint32{0, minus0, least, one, greatest}},
		{2, true, []uint32{0, minus0, one, many, greatest}},
		{3, false, []uint32{0, one, many}},
		{3, false, []uint32{two, greatest}},
		{3, true, []uint32{one}},
	} {
		p := newPair(t, 0)
		for v := 1; v < c.n; v++ {
			p.addVertices(v)
		}
		pairs := pairsOf(c.n, c.loops)
		eachGraph(p, pairs, c.kinds, func() { eachEdit(p, pairs, c.kinds) })
	}
}

// Each graph of four vertices without edges from one to itself, of alike weights, each edge of which goes and comes again.
func TestEveryShapeOfFour(t *testing.T) {
	for _, bits := range []uint32{0, one} {
		p := newPair(t, 0)
		p.addVertices(1, 2, 3)
		eachGraph(p, pairsOf(4, false), []uint32{bits}, func() {})
	}
}

// Each script of three calls, the wrong ones too, ahead of which another one has made a small graph.
func TestEveryShortScript(t *testing.T) {
	calls := []func(p *pair){
		func(p *pair) { p.addVertex(1) },
		func(p *pair) { p.addVertex(2) },
		func(p *pair) { p.dropVertex(1) },
		func(p *pair) { p.dropVertex(2) },
		func(p *pair) { p.delete(1) },
		func(p *pair) { p.delete(2) },
		func(p *pair) { p.delete(0) },
	}
	for e := range 3 {
		for _, bits := range []uint32{0, one, plusInf} {
			calls = append(calls, func(p *pair) { p.reweigh(e, bits) })
			for _, arc := range []api.Arc{{U: 1, V: 2}, {U: 2, V: 1}} {
				calls = append(calls, func(p *pair) { p.insert(api.Edge{E: e, U: arc.U, V: arc.V, Bits: bits}) })
			}
		}
	}
	begin := func(t *testing.T, turn int) *pair {
		p := newPair(t, 1, 0, 2, 3)
		if turn > 0 {
			p.addVertex(2)
		}
		if turn > 1 {
			p.insert(edge(1, 1, 2, 2))
		}
		return p
	}
	for turn := range 3 {
		for _, first := range calls {
			for _, second := range calls {
				for _, third := range calls {
					p := begin(t, turn)
					first(p)
					second(p)
					third(p)
				}
			}
		}
	}
}

// An edge that goes and comes again, or gets its weight again, gives every distance back: all at once, in drawn orders.
func TestThereAndBack(t *testing.T) {
	r := rand.New(rand.NewPCG(14, 6))
	for range 80 {
		n := 2 + r.IntN(5)
		p := newPair(t, 0)
		for v := 1; v < n; v++ {
			p.addVertices(v)
		}
		for e := 1; e <= 2*n; e++ {
			p.insertAll(api.Edge{E: e, U: r.IntN(n), V: r.IntN(n), Bits: drawnWeight(r)})
		}
		es, costs := maps.Clone(p.g.es), maps.Clone(p.costs)
		back := func() {
			if !maps.Equal(p.costs, costs) || !maps.Equal(p.g.es, es) {
				p.fail("the distances were %v, and are %v", costs, p.costs)
			}
		}
		for _, i := range r.Perm(2 * n) {
			p.delete(1 + i)
		}
		p.wantReached(0)
		for _, i := range r.Perm(2 * n) {
			p.insertAll(es[1+i])
		}
		back()
		for _, i := range r.Perm(2 * n) {
			p.reweigh(1+i, drawnWeight(r))
		}
		for _, i := range r.Perm(2 * n) {
			p.reweigh(1+i, es[1+i].Bits)
		}
		back()
	}
}

// The same calls tell the same, paths and Touched too: the order in which a map is gone through doesn't show.
func TestSameCallsTellTheSame(t *testing.T) {
	r := rand.New(rand.NewPCG(14, 7))
	for range 60 {
		n := 3 + r.IntN(12)
		first, second := newPair(t, 0).wide(), newPair(t, 0).wide()
		for v := 1; v < n; v++ {
			first.addVertices(v)
			second.addVertices(v)
		}
		for range 60 {
			e, u, v, bits := 1+r.IntN(3*n), r.IntN(n), r.IntN(n), uint32(one)*r.Uint32N(2)
			call := func(p *pair) {
				if _, there := p.g.es[e]; !there {
					p.insert(api.Edge{E: e, U: u, V: v, Bits: bits})
				} else if u%2 == 0 {
					p.delete(e)
				} else {
					p.reweigh(e, bits)
				}
			}
			call(first)
			call(second)
			wantAlike(first, second)
		}
	}
}

// The two ways in which the tests say what a distance is are one: a walk without loops is as cheap as any.
func TestModelsOfDistances(t *testing.T) {
	r := rand.New(rand.NewPCG(14, 8))
	for range 2000 {
		n := 1 + r.IntN(6)
		g := plain{s: r.IntN(n), es: map[int]api.Edge{}}
		for e := range r.IntN(2*n + 4) {
			g.es[1+e] = api.Edge{E: 1 + e, U: r.IntN(n), V: r.IntN(n), Bits: drawnWeight(r)}
		}
		if a, b := byAllWalks(g), bySteps(g); !maps.Equal(a, b) {
			t.Fatalf("%v: %v, %v", g, a, b)
		}
	}
}
