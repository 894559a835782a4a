package scc_test

import (
	"math/rand/v2"
	"slices"
	"testing"

	"bramble/api"
	"bramble/scc"
)

// plain: a graph as it is handed in.
type plain struct {
	vs   []int
	arcs []api.Arc
}

// answer: what the three calls answer of a graph.
type answer struct {
	comps   [][]int
	order   []int
	acyclic bool
	errno   api.Errno
}

func (a answer) equal(b answer) bool {
	return slices.EqualFunc(a.comps, b.comps, slices.Equal) && slices.Equal(a.order, b.order) && a.acyclic == b.acyclic && a.errno == b.errno
}

// ask makes all three calls, which have to answer the same error.
func ask(t *testing.T, g plain) answer {
	t.Helper()
	var a answer
	var second, third api.Errno
	a.comps, a.errno = scc.Of(g.vs, g.arcs)
	a.order, second = scc.Order(g.vs, g.arcs)
	a.acyclic, third = scc.Acyclic(g.vs, g.arcs)
	if second != a.errno || third != a.errno {
		t.Fatalf("P9.1: of %v: Of answers %d, Order %d, Acyclic %d", g, a.errno, second, third)
	}
	return a
}

// judge: what the chapter's words say of a graph.
func judge(g plain) answer {
	for i, v := range g.vs {
		if slices.Contains(g.vs[:i], v) {
			return answer{errno: api.ErrTwice}
		}
	}
	for _, arc := range g.arcs {
		if !slices.Contains(g.vs, arc.U) || !slices.Contains(g.vs, arc.V) {
			return answer{errno: api.ErrNoVertex}
		}
	}
	var a answer
	a.comps = componentsAsTold(g)
	a.order = orderAsTold(g, a.comps)
	a.acyclic = true
	for _, comp := range a.comps {
		a.acyclic = a.acyclic && len(comp) == 1
	}
	for _, arc := range g.arcs {
		a.acyclic = a.acyclic && arc.U != arc.V
	}
	return a
}

// reaching: of each pair of vertices, does the one reach the other?
func reaching(g plain) map[api.Arc]bool {
	reach := map[api.Arc]bool{}
	for _, v := range g.vs {
		reach[api.Arc{U: v, V: v}] = true
	}
	for _, arc := range g.arcs {
		reach[arc] = true
	}
	for _, mid := range g.vs {
		for _, u := range g.vs {
			if !reach[api.Arc{U: u, V: mid}] {
				continue
			}
			for _, v := range g.vs {
				if reach[api.Arc{U: mid, V: v}] {
					reach[api.Arc{U: u, V: v}] = true
				}
			}
		}
	}
	return reach
}

// componentsAsTold: of each vertex that is a head, all that it reaches and that reach it.
func componentsAsTold(g plain) [][]int {
	reach := reaching(g)
	var comps [][]int
	for _, u := range slices.Sorted(slices.Values(g.vs)) {
		var comp []int
		for _, v := range g.vs {
			if reach[api.Arc{U: u, V: v}] && reach[api.Arc{U: v, V: u}] {
				comp = append(comp, v)
			}
		}
		slices.Sort(comp)
		if comp[0] == u {
			comps = append(comps, comp)
		}
	}
	return comps
}

// orderAsTold tells, again and again, the first of the components left into which no arc leads from another one left.
func orderAsTold(g plain, comps [][]int) []int {
	head := map[int]int{}
	for _, comp := range comps {
		for _, v := range comp {
			head[v] = comp[0]
		}
	}
	var order []int
	for len(order) < len(comps) {
		free := slices.IndexFunc(comps, func(comp []int) bool {
			return !slices.Contains(order, comp[0]) && !slices.ContainsFunc(g.arcs, func(arc api.Arc) bool {
				return head[arc.V] == comp[0] && head[arc.U] != comp[0] && !slices.Contains(order, head[arc.U])
			})
		})
		order = append(order, comps[free][0])
	}
	return order
}

// try holds the answers of a graph against the chapter's words.
func try(t *testing.T, g plain) {
	t.Helper()
	if got, want := ask(t, g), judge(g); !got.equal(want) {
		t.Fatalf("P9.1: of %v: %v, not %v", g, got, want)
	}
}

// Each graph of up to three vertices with each set of arcs; of four, each set of arcs but those of a vertex to itself.
func TestEverySmallGraph(t *testing.T) {
	for _, vs := range [][]int{{}, {4}, {9, 4}, {4, 9, -3}, {4, -3, 9, 0}} {
		var pairs []api.Arc
		for _, u := range vs {
			for _, v := range vs {
				if u != v || len(vs) < 4 {
					pairs = append(pairs, api.Arc{U: u, V: v})
				}
			}
		}
		for chosen := range 1 << len(pairs) {
			g := plain{vs: vs}
			for i, pair := range pairs {
				if chosen>>i&1 == 1 {
					g.arcs = append(g.arcs, pair)
				}
			}
			try(t, g)
		}
	}
}

// Each list of up to three vertices and of up to two arcs, of three numbers, the wrong ones too.
func TestEverySmallList(t *testing.T) {
	numbers := []int{5, -2, 0}
	lists := [][]int{nil}
	for i := 0; len(lists[i]) < 3; i++ {
		for _, v := range numbers {
			lists = append(lists, append(slices.Clone(lists[i]), v))
		}
	}
	arcs := [][]api.Arc{nil}
	for i := 0; len(arcs[i]) < 2; i++ {
		for _, u := range numbers {
			for _, v := range numbers {
				arcs = append(arcs, append(slices.Clone(arcs[i]), api.Arc{U: u, V: v}))
			}
		}
	}
	for _, vs := range lists {
		for _, list := range arcs {
			try(t, plain{vs, list})
		}
	}
}

// drawn: a graph of n vertices in any order, with so many arcs, of which some come several times.
func drawn(r *rand.Rand, n, arcs int) plain {
	g := plain{vs: r.Perm(3 * n)[:n]}
	for i, v := range g.vs {
		g.vs[i] = v - n
	}
	for len(g.arcs) < arcs {
		if len(g.arcs) > 0 && r.IntN(8) == 0 {
			g.arcs = append(g.arcs, g.arcs[r.IntN(len(g.arcs))])
			continue
		}
		g.arcs = append(g.arcs, api.Arc{U: g.vs[r.IntN(n)], V: g.vs[r.IntN(n)]})
	}
	return g
}

// drawnAcyclic: likewise, with arcs that lead on in an order that isn't that of the numbers.
func drawnAcyclic(r *rand.Rand, n, arcs int) plain {
	g := drawn(r, n, arcs)
	rank := map[int]int{}
	for i, place := range r.Perm(n) {
		rank[g.vs[i]] = place
	}
	g.arcs = slices.DeleteFunc(g.arcs, func(arc api.Arc) bool { return arc.U == arc.V })
	for i, arc := range g.arcs {
		if rank[arc.U] > rank[arc.V] {
			g.arcs[i] = api.Arc{U: arc.V, V: arc.U}
		}
	}
	return g
}

func TestDrawnGraphs(t *testing.T) {
	r := rand.New(rand.NewPCG(9, 1))
	for range 4000 {
		n := 1 + r.IntN(12)
		try(t, drawn(r, n, r.IntN(2*n+2)))
		try(t, drawnAcyclic(r, n, r.IntN(3*n)))
	}
	for range 20 {
		n := 30 + r.IntN(30)
		try(t, drawn(r, n, n/2+r.IntN(n)))
		try(t, drawnAcyclic(r, n, 3*n))
	}
}

// Drawn graphs with a fault: a vertex that stands twice, an arc with an end that is no vertex, or both.
func TestDrawnFaults(t *testing.T) {
	r := rand.New(rand.NewPCG(9, 2))
	for turn := range 1500 {
		n := 1 + r.IntN(10)
		g := drawn(r, n, r.IntN(2*n))
		kind := 1 + turn%3
		if kind&1 != 0 {
			g.vs = slices.Insert(g.vs, r.IntN(n+1), g.vs[r.IntN(n)])
		}
		if kind&2 != 0 {
			arc := api.Arc{U: 5 * n, V: g.vs[r.IntN(n)]}
			if r.IntN(2) == 0 {
				arc = api.Arc{U: arc.V, V: -2 * n}
			}
			g.arcs = slices.Insert(g.arcs, r.IntN(len(g.arcs)+1), arc)
		}
		want := api.ErrTwice
		if kind == 2 {
			want = api.ErrNoVertex
		}
		if got := ask(t, g); !got.equal(answer{errno: want}) {
			t.Fatalf("P9.1: of %v: %v, not %d", g, got, want)
		}
		try(t, g)
	}
}
