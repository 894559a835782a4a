package cert_test

import (
	"math/rand/v2"
	"slices"
	"testing"

	"bramble/api"
)

// labels: right ones, with a Post of its own for each vertex, and a run for each number.
func (k *truth) labels() []api.Label {
	var ls []api.Label
	for i, u := range k.g.vs {
		l := label(u, i)
		for j, v := range k.g.vs {
			if k.reaches(u, v) {
				l.Runs = append(l.Runs, api.Span{Lo: j, Hi: j})
			}
		}
		ls = append(ls, l)
	}
	return ls
}

// tree: a right one, that grows from its source edge by edge.
func (k *truth) tree(s int) api.Tree {
	costs, edges := k.costsFrom(s), map[int]int{s: 0}
	for again := true; again; {
		again = false
		for _, x := range k.g.es {
			_, begins := edges[x.U]
			_, ends := edges[x.V]
			if begins && !ends && added(costs[x.U], x.Bits) == costs[x.V] {
				edges[x.V], again = x.E, true
			}
		}
	}
	t := api.Tree{Source: s}
	for _, v := range k.g.vs {
		cost, led := costs[v]
		t.Dists = append(t.Dists, api.Dist{V: v, Far: !led, Bits: cost, Edge: edges[v]})
	}
	return t
}

// drawnWeight: of all kinds, so that sums are often alike, round, or overflow.
func drawnWeight(r *rand.Rand) uint32 {
	kinds := []uint32{0, minus0, least, one, two, 0x40400000, many, 0x4b800001, 0x33800000, 0x72ffffff, 0x73000000, greatest}
	switch r.IntN(4) {
	case 0:
		return r.Uint32N(plusInf)
	case 1:
		return 0x4a000000 + r.Uint32N(4<<23)
	case 2:
		return bitsOf(float32(1 + r.IntN(3)))
	}
	return kinds[r.IntN(len(kinds))]
}

// drawn: a graph of n vertices in any order, with so many edges.
func drawn(r *rand.Rand, n, edges int) plain {
	g := plain{vs: r.Perm(3 * n)[:n]}
	for i, v := range g.vs {
		g.vs[i] = v - n
	}
	for _, e := range r.Perm(2 * edges)[:edges] {
		g.es = append(g.es, edge(1+e, g.vs[r.IntN(n)], g.vs[r.IntN(n)], drawnWeight(r)))
	}
	return g
}

// alike: the same graph with weights of few kinds, so that many walks cost the same.
func alike(r *rand.Rand, g plain) plain {
	g.es = slices.Clone(g.es)
	for i := range g.es {
		g.es[i].Bits = []uint32{0, minus0, one, one, many}[r.IntN(5)]
	}
	return g
}

// shuffle: the things in any order.
func shuffle[T any](r *rand.Rand, list []T) []T {
	list = slices.Clone(list)
	r.Shuffle(len(list), func(i, j int) { list[i], list[j] = list[j], list[i] })
	return list
}

// Of drawn graphs the right components, and each way in which they may be turned wrong at one place.
func TestDrawnParts(t *testing.T) {
	r := rand.New(rand.NewPCG(15, 1))
	for range 3000 {
		n := 1 + r.IntN(8)
		k := know(drawn(r, n, r.IntN(2*n)))
		right := shuffle(r, k.comps)
		for i := range right {
			right[i] = shuffle(r, right[i])
		}
		if !k.tryParts(t, right) {
			t.Fatalf("P15.1: the components of %v", k.g)
		}
		no := func(comps [][]int) {
			t.Helper()
			if k.tryParts(t, comps) {
				t.Fatalf("P15.1: of %v: %v is accepted", k.g, comps)
			}
		}
		with := func(i int, lists ...[]int) [][]int { return slices.Replace(slices.Clone(right), i, i+1, lists...) }
		for i, comp := range right {
			no(with(i))
			no(with(i, comp, comp))
			no(with(i, comp, nil))
			no(with(i, append(slices.Clone(comp), 5*n)))
			for j, v := range comp {
				no(with(i, slices.Delete(slices.Clone(comp), j, j+1)))
				no(with(i, append(slices.Clone(comp), v)))
				no(with(i, comp, []int{v}))
				no(with(i, slices.Replace(slices.Clone(comp), j, j+1, -2*n)))
				if len(comp) > 1 {
					no(with(i, comp[:j], comp[j:]))
					no(with(i, slices.Delete(slices.Clone(comp), j, j+1), []int{v}))
					no(with(i, slices.Replace(slices.Clone(comp), j, j+1, comp[(j+1)%len(comp)])))
				}
			}
			if other := (i + 1) % len(right); other != i {
				no(slices.Delete(with(i, slices.Concat(comp, right[other])), other, other+1))
				no(with(i, right[other]))
				no(with(i, append(slices.Clone(comp), right[other][0])))
			}
		}
	}
}

// Of drawn graphs right labels, and labels in which one pair is told wrongly, in either way.
func TestDrawnLabels(t *testing.T) {
	r := rand.New(rand.NewPCG(15, 2))
	for range 2000 {
		n := 1 + r.IntN(7)
		k := know(drawn(r, n, r.IntN(2*n)))
		ls := k.labels()
		if !k.tryLabels(t, shuffle(r, ls)) {
			t.Fatalf("P15.1: the labels of %v: %v", k.g, ls)
		}
		no := func(list []api.Label) {
			t.Helper()
			if k.tryLabels(t, shuffle(r, list)) {
				t.Fatalf("P15.1: of %v: %v is accepted", k.g, list)
			}
		}
		for i, l := range ls {
			for j := range n {
				other := slices.Clone(ls)
				if k.reaches(l.V, ls[j].V) {
					other[i].Runs = slices.DeleteFunc(slices.Clone(l.Runs), func(run api.Span) bool { return run.Lo == j })
				} else {
					other[i].Runs = append(slices.Clone(l.Runs), api.Span{Lo: j, Hi: j})
				}
				no(other)
			}
			no(slices.Delete(slices.Clone(ls), i, i+1))
			no(append(slices.Clone(ls), l))
			for _, post := range []int{-1, n} {
				other := append(slices.Clone(ls), l)
				other[n].Post = post
				no(other)
			}
			for _, v := range []int{5 * n, -2 * n, ls[(i+1)%n].V} {
				other := slices.Clone(ls)
				other[i].V = v
				if v != l.V {
					no(other)
				}
				other = append(slices.Clone(ls), l)
				other[n].V = v
				no(other)
			}
		}
	}
}

// Of drawn graphs claims that are drawn too: few posts, so that several vertices have one, and runs that overlap, stand in any
// order and may have nothing in them.
func TestDrawnRuns(t *testing.T) {
	r := rand.New(rand.NewPCG(15, 3))
	var seen both
	for range 60000 {
		n := 1 + r.IntN(3)
		k := know(drawn(r, n, r.IntN(2*n+1)))
		var ls []api.Label
		for _, v := range k.g.vs {
			l := label(v, r.IntN(4))
			for range r.IntN(4) {
				l.Runs = append(l.Runs, api.Span{Lo: r.IntN(6) - 1, Hi: r.IntN(6) - 1})
			}
			ls = append(ls, l)
		}
		seen.count(k.tryLabels(t, ls))
	}
	seen.look(t, 1000)
}

// wider: the same labels in other words: posts further apart, those of one component one, and runs in pieces, in any order, that
// overlap, with others that hold no post or nothing.
func wider(r *rand.Rand, k *truth, ls []api.Label) []api.Label {
	post := func(i int) int {
		for j := range i {
			if k.reaches(ls[i].V, ls[j].V) && k.reaches(ls[j].V, ls[i].V) {
				return 10 * j
			}
		}
		return 10 * i
	}
	var list []api.Label
	for i, l := range ls {
		other := label(l.V, post(i))
		for _, run := range l.Runs {
			at := post(run.Lo)
			other.Runs = append(other.Runs, api.Span{Lo: at - r.IntN(10), Hi: at + r.IntN(10)}, api.Span{Lo: at + 1, Hi: at + 9}, api.Span{Lo: at + 1 + r.IntN(30), Hi: at})
		}
		other.Runs = shuffle(r, other.Runs)
		list = append(list, other)
	}
	return shuffle(r, list)
}

func TestDrawnWiderLabels(t *testing.T) {
	r := rand.New(rand.NewPCG(15, 4))
	for range 3000 {
		n := 1 + r.IntN(9)
		k := know(drawn(r, n, r.IntN(2*n)))
		ls := wider(r, k, k.labels())
		if !k.tryLabels(t, ls) {
			t.Fatalf("P15.1: of %v: %v", k.g, ls)
		}
		for range 10 {
			other := slices.Clone(ls)
			l := &other[r.IntN(n)]
			switch r.IntN(4) {
			case 0:
				l.Post = 10 * r.IntN(n)
			case 1:
				l.Runs = append(slices.Clone(l.Runs), api.Span{Lo: 10 * r.IntN(n), Hi: 10 * r.IntN(n)})
			case 2:
				l.Runs = l.Runs[:r.IntN(len(l.Runs))]
			case 3:
				l.V = other[r.IntN(n)].V
			}
			k.tryLabels(t, other)
		}
	}
}

// Of drawn graphs right trees, and trees in which one field of one Dist is turned.
func TestDrawnTrees(t *testing.T) {
	r := rand.New(rand.NewPCG(15, 5))
	var seen both
	for turn := range 1500 {
		n := 1 + r.IntN(7)
		g := drawn(r, n, r.IntN(2*n+3))
		if turn%2 == 0 {
			g = alike(r, g)
		}
		k := know(g)
		s := k.g.vs[r.IntN(n)]
		right := k.tree(s)
		if !k.tryTree(t, api.Tree{Source: s, Dists: shuffle(r, right.Dists)}) {
			t.Fatalf("P15.1: of %v: %v", k.g, right)
		}
		try := func(dists []api.Dist, free bool) {
			t.Helper()
			answer := k.tryTree(t, api.Tree{Source: s, Dists: dists})
			seen.count(answer)
			if answer && !free {
				t.Fatalf("P15.1: of %v: from %d: %v is accepted", k.g, s, dists)
			}
		}
		for i, d := range right.Dists {
			turned := func(free bool, turn func(d *api.Dist)) {
				t.Helper()
				dists := slices.Clone(right.Dists)
				turn(&dists[i])
				if dists[i] != d {
					try(dists, free)
				}
			}
			turned(false, func(d *api.Dist) { d.Far = !d.Far })
			turned(false, func(d *api.Dist) { *d = far(d.V) })
			for _, bits := range []uint32{d.Bits + 1, d.Bits - 1, d.Bits ^ minus0, 0, plusInf, r.Uint32()} {
				turned(false, func(d *api.Dist) { d.Bits = bits })
			}
			for _, x := range k.g.es {
				turned(true, func(d *api.Dist) { d.Edge = x.E })
			}
			for _, e := range []int{0, -1, -d.Edge - 1, 4*n + 7} {
				turned(false, func(d *api.Dist) { d.Edge = e })
			}
			for _, v := range []int{5 * n, -2 * n, right.Dists[(i+1)%n].V} {
				turned(false, func(d *api.Dist) { d.V = v })
			}
			try(slices.Delete(slices.Clone(right.Dists), i, i+1), false)
			try(append(slices.Clone(right.Dists), d), false)
			try(append(slices.Clone(right.Dists), far(5*n)), false)
		}
		for _, other := range append([]int{5 * n, -2 * n}, k.g.vs...) {
			k.tryTree(t, api.Tree{Source: other, Dists: right.Dists})
		}
	}
	seen.look(t, 100)
}

// Of drawn graphs all edges that enter their vertices are tried together.
func TestDrawnEdges(t *testing.T) {
	r := rand.New(rand.NewPCG(15, 6))
	var seen both
	for turn := range 1500 {
		n := 2 + r.IntN(4)
		g := drawn(r, n, r.IntN(2*n+3))
		if turn%2 == 0 {
			g = alike(r, g)
		}
		k := know(g)
		s := g.vs[r.IntN(n)]
		eachChoice(k.entering(s), func(ds []api.Dist) { seen.count(k.tryTree(t, api.Tree{Source: s, Dists: ds})) })
	}
	seen.look(t, 1000)
}

// The two ways in which the tests say what a distance is are one.
func TestModelsOfDistances(t *testing.T) {
	r := rand.New(rand.NewPCG(15, 7))
	for range 2000 {
		n := 1 + r.IntN(6)
		g := drawn(r, n, r.IntN(2*n+4))
		a, b := byAllWalks(g, g.vs[0]), bySteps(g, g.vs[0])
		for _, v := range g.vs {
			costA, inA := a[v]
			costB, inB := b[v]
			if costA != costB || inA != inB {
				t.Fatalf("%v: %v, %v", g, a, b)
			}
		}
	}
}

// Drawn graphs with drawn faults.
func TestDrawnFaults(t *testing.T) {
	r := rand.New(rand.NewPCG(15, 8))
	bad := []uint32{plusInf, 0xff800000, 0x7fc00000, 0xffffffff, 0x80000001, 0xbf800000}
	for turn := range 2000 {
		n := 1 + r.IntN(6)
		g := drawn(r, n, 2+r.IntN(2*n))
		k := know(g)
		comps, ls, claimed := k.comps, k.labels(), k.tree(g.vs[0])
		g = plain{slices.Clone(g.vs), slices.Clone(g.es)}
		if turn&1 != 0 {
			g.es[r.IntN(len(g.es))].Bits = bad[r.IntN(len(bad))]
		}
		if turn&2 != 0 {
			g.es[r.IntN(len(g.es))].V = 5 * n
		}
		if turn&4 != 0 {
			g.es[r.IntN(len(g.es))].E = -r.IntN(3)
		}
		if turn&8 != 0 {
			g.es = append(g.es, g.es[r.IntN(len(g.es))])
		}
		if turn&16 != 0 {
			g.vs = slices.Insert(g.vs, r.IntN(n+1), g.vs[r.IntN(n)])
		}
		faulty := know(g)
		faulty.tryParts(t, comps)
		faulty.tryLabels(t, ls)
		faulty.tryTree(t, claimed)
	}
}
