package scc_test

import (
	"math/rand/v2"
	"slices"
	"testing"

	"bramble/api"
)

// Of several components that could come next the least head does, and one that comes free goes ahead of greater ones.
func TestLeastHeadNext(t *testing.T) {
	for _, c := range []struct {
		name  string
		vs    []int
		arcs  []api.Arc
		order []int
	}{
		{"all free", []int{4, 2, 3, 1}, nil, []int{1, 2, 3, 4}},
		{"the least comes free last", []int{1, 2, 3, 4}, arcsOf(4, 1), []int{2, 3, 4, 1}},
		{"the least comes free at once", []int{1, 2, 3, 4}, arcsOf(2, 1), []int{2, 1, 3, 4}},
		{"a greater one comes free", []int{1, 2, 3, 4}, arcsOf(1, 4), []int{1, 2, 3, 4}},
		{"behind two", []int{1, 2, 3, 4}, arcsOf(2, 1, 4, 1), []int{2, 3, 4, 1}},
		{"not layer by layer", []int{1, 2, 3, 4, 5}, arcsOf(1, 2, 2, 3, 4, 5), []int{1, 2, 3, 4, 5}},
		{"not branch by branch", []int{1, 2, 3, 4, 5}, arcsOf(1, 4, 1, 2, 2, 5, 4, 3), []int{1, 2, 4, 3, 5}},
		{"falling", []int{1, 2, 3, 4}, arcsOf(4, 3, 3, 2, 2, 1), []int{4, 3, 2, 1}},
		{"with a short way beside a long one", []int{1, 2, 3, 4}, arcsOf(4, 1, 4, 3, 3, 2, 2, 1), []int{4, 3, 2, 1}},
		{"by heads, not by where arcs end", []int{1, 2, 3, 4, 5, 6}, arcsOf(6, 1, 1, 6, 4, 5, 5, 4, 3, 2, 2, 3), []int{1, 2, 4}},
		{"a head that leads nowhere", []int{1, 2, 3, 4, 5}, arcsOf(3, 5, 5, 3, 5, 1, 4, 3), []int{2, 4, 3, 1}},
		{"several that come free together", []int{1, 2, 3, 4, 5, 6}, arcsOf(6, 3, 6, 1, 6, 5, 6, 2), []int{4, 6, 1, 2, 3, 5}},
	} {
		t.Run(c.name, func(t *testing.T) {
			if got := ask(t, plain{c.vs, c.arcs}); got.errno != api.OK || !slices.Equal(got.order, c.order) {
				t.Errorf("P9.1: Order: %v, %d, not %v", got.order, got.errno, c.order)
			}
			try(t, plain{c.vs, c.arcs})
		})
	}
}

// checkForm looks at what holds of all answers: each vertex is in just one component, the components' vertices and the heads
// rise, the order tells each head once, and an arc between two components leads on in it.
func checkForm(t *testing.T, g plain) answer {
	t.Helper()
	a := ask(t, g)
	rising := func(list []int) bool {
		return slices.IsSorted(list) && len(slices.Compact(slices.Clone(list))) == len(list)
	}
	var heads, all []int
	head, place := map[int]int{}, map[int]int{}
	for _, comp := range a.comps {
		if len(comp) == 0 || !rising(comp) {
			t.Fatalf("P9.1: a component: %v", comp)
		}
		heads, all = append(heads, comp[0]), append(all, comp...)
		for _, v := range comp {
			head[v] = comp[0]
		}
	}
	if a.errno != api.OK || !rising(heads) {
		t.Fatalf("P9.1: heads: %v, %d", heads, a.errno)
	}
	slices.Sort(all)
	if !slices.Equal(all, slices.Sorted(slices.Values(g.vs))) {
		t.Fatalf("P9.1: in components are %v", all)
	}
	if !slices.Equal(slices.Sorted(slices.Values(a.order)), heads) {
		t.Fatalf("P9.1: Order %v of the heads %v", a.order, heads)
	}
	for i, v := range a.order {
		place[v] = i
	}
	for _, arc := range g.arcs {
		if u, v := head[arc.U], head[arc.V]; u != v && place[u] >= place[v] {
			t.Fatalf("P9.1: the arc %v leads back in %v", arc, a.order)
		}
	}
	return a
}

func TestFormOfDrawnGraphs(t *testing.T) {
	r := rand.New(rand.NewPCG(9, 3))
	for range 300 {
		n := 1 + r.IntN(200)
		checkForm(t, drawn(r, n, r.IntN(2*n)))
		checkForm(t, drawnAcyclic(r, n, r.IntN(3*n)))
	}
	checkForm(t, drawn(r, 20000, 21000))
	checkForm(t, drawnAcyclic(r, 20000, 60000))
}

// otherwise: lists that mean the same: turned round, drawn in another order, rising and falling, with arcs doubled.
func otherwise(r *rand.Rand, g plain) []plain {
	turned := plain{slices.Clone(g.vs), slices.Clone(g.arcs)}
	slices.Reverse(turned.vs)
	slices.Reverse(turned.arcs)
	shuffled := plain{slices.Clone(g.vs), slices.Clone(g.arcs)}
	r.Shuffle(len(g.vs), func(i, j int) { shuffled.vs[i], shuffled.vs[j] = shuffled.vs[j], shuffled.vs[i] })
	r.Shuffle(len(g.arcs), func(i, j int) { shuffled.arcs[i], shuffled.arcs[j] = shuffled.arcs[j], shuffled.arcs[i] })
	rising := slices.Sorted(slices.Values(g.vs))
	falling := slices.Clone(rising)
	slices.Reverse(falling)
	var stutter []api.Arc
	for _, arc := range g.arcs {
		stutter = append(stutter, slices.Repeat([]api.Arc{arc}, 1+r.IntN(3))...)
	}
	return []plain{
		{turned.vs, g.arcs}, {g.vs, turned.arcs}, turned, shuffled, {rising, shuffled.arcs}, {falling, g.arcs},
		{g.vs, stutter}, {shuffled.vs, slices.Concat(g.arcs, g.arcs)}, {g.vs, slices.Concat(shuffled.arcs, turned.arcs, g.arcs)},
	}
}

func TestOrderOfListsChangesNothing(t *testing.T) {
	r := rand.New(rand.NewPCG(9, 4))
	for turn := range 1500 {
		n := 1 + r.IntN(25)
		g := drawn(r, n, r.IntN(2*n))
		if turn%2 == 0 {
			g = drawnAcyclic(r, n, r.IntN(3*n))
		}
		if turn%7 == 0 {
			g.arcs = append(g.arcs, api.Arc{U: g.vs[0], V: 9 * n})
		}
		if turn%11 == 0 {
			g.vs = append(g.vs, g.vs[n/2])
		}
		want := ask(t, g)
		for _, other := range otherwise(r, g) {
			if got := ask(t, other); !got.equal(want) {
				t.Fatalf("P9.2: of %v: %v; of %v: %v", g, want, other, got)
			}
		}
	}
}

// The same call again answers the same.
func TestSameAgain(t *testing.T) {
	r := rand.New(rand.NewPCG(9, 5))
	g, other := drawn(r, 300, 400), drawn(r, 100, 150)
	want := ask(t, g)
	for range 20 {
		ask(t, other)
		if got := ask(t, g); !got.equal(want) {
			t.Fatal("R7: the same call answers otherwise")
		}
	}
}

// line: a path through 0, 1 and so on to n-1.
func line(n int) plain {
	g := plain{}
	for v := range n {
		g.vs = append(g.vs, v)
		if v > 0 {
			g.arcs = append(g.arcs, api.Arc{U: v - 1, V: v})
		}
	}
	return g
}

// back: the same graph with each arc the other way.
func back(g plain) plain {
	other := plain{vs: g.vs}
	for _, arc := range g.arcs {
		other.arcs = append(other.arcs, api.Arc{U: arc.V, V: arc.U})
	}
	return other
}

const long = 200000

func TestLongPaths(t *testing.T) {
	there := line(long)
	if a := checkForm(t, there); len(a.comps) != long || !slices.Equal(a.order, there.vs) || !a.acyclic {
		t.Errorf("P9.1: a long path: %d components, acyclic %v", len(a.comps), a.acyclic)
	}
	falling := slices.Clone(there.vs)
	slices.Reverse(falling)
	if a := checkForm(t, back(there)); len(a.comps) != long || !slices.Equal(a.order, falling) || !a.acyclic {
		t.Errorf("P9.1: a long path back: %d components, acyclic %v", len(a.comps), a.acyclic)
	}
	both := plain{there.vs, slices.Concat(there.arcs, back(there).arcs)}
	if a := checkForm(t, both); len(a.comps) != 1 || !slices.Equal(a.order, []int{0}) || a.acyclic {
		t.Errorf("P9.1: there and back: %d components, acyclic %v", len(a.comps), a.acyclic)
	}
}

func TestLongRings(t *testing.T) {
	ring := line(long)
	ring.arcs = append(ring.arcs, api.Arc{U: long - 1, V: 0})
	for _, g := range []plain{ring, back(ring)} {
		if a := checkForm(t, g); len(a.comps) != 1 || !slices.Equal(a.order, []int{0}) || a.acyclic {
			t.Errorf("P9.1: a long ring: %d components, acyclic %v", len(a.comps), a.acyclic)
		}
	}
	// A tail leads out of the ring's midst, and another one into it.
	tails := line(long)
	tails.arcs = append(tails.arcs, api.Arc{U: 2 * long / 3, V: long / 3})
	a := checkForm(t, tails)
	if joined := 2*long/3 - long/3; len(a.comps) != long-joined || a.acyclic {
		t.Errorf("P9.1: a ring with tails: %d components, acyclic %v", len(a.comps), a.acyclic)
	}
}

// Many arcs: all of 400 vertices to each other, and each to all greater ones.
func TestManyArcs(t *testing.T) {
	const n = 400
	whole, onward := plain{}, plain{}
	for u := range n {
		whole.vs, onward.vs = append(whole.vs, u), append(onward.vs, u)
		for v := range n {
			whole.arcs = append(whole.arcs, api.Arc{U: u, V: v})
			if u < v {
				onward.arcs = append(onward.arcs, api.Arc{U: u, V: v})
			}
		}
	}
	if a := checkForm(t, whole); len(a.comps) != 1 || a.acyclic {
		t.Errorf("P9.1: all arcs: %d components", len(a.comps))
	}
	if a := checkForm(t, onward); !slices.Equal(a.order, onward.vs) || !a.acyclic {
		t.Errorf("P9.1: all arcs onward: %v", a.order)
	}
	if a := checkForm(t, back(onward)); len(a.order) != n || a.order[0] != n-1 || a.order[n-1] != 0 || !a.acyclic {
		t.Errorf("P9.1: all arcs back: %v", a.order)
	}
}

// A star: many arcs into one vertex, and many out of it.
func TestStars(t *testing.T) {
	out := plain{vs: []int{0}}
	for v := 1; v < long/4; v++ {
		out.vs, out.arcs = append(out.vs, v), append(out.arcs, api.Arc{U: 0, V: v})
	}
	if a := checkForm(t, out); !slices.Equal(a.order, out.vs) || !a.acyclic {
		t.Errorf("P9.1: a star: acyclic %v", a.acyclic)
	}
	if a := checkForm(t, back(out)); !slices.Equal(a.order, append(out.vs[1:len(out.vs):len(out.vs)], 0)) || !a.acyclic {
		t.Errorf("P9.1: a star's arcs reversed: acyclic %v", a.acyclic)
	}
	both := plain{out.vs, slices.Concat(out.arcs, back(out).arcs)}
	if a := checkForm(t, both); len(a.comps) != 1 || a.acyclic {
		t.Errorf("P9.1: a star there and back: %d components", len(a.comps))
	}
}
