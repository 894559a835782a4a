package cover_test

import (
	"math/rand/v2"
	"slices"
	"testing"

	"bramble/api"
)

// pairsOf: all arcs between n nodes, those from a node to itself too, if wanted.
func pairsOf(n int, selves bool) []api.Arc {
	var pairs []api.Arc
	for u := range n {
		for v := range n {
			if u != v || selves {
				pairs = append(pairs, api.Arc{U: u, V: v})
			}
		}
	}
	return pairs
}

// chosen: of the arcs, those whose bits are set.
func chosen(pairs []api.Arc, bits int) []api.Arc {
	var arcs []api.Arc
	for i, pair := range pairs {
		if bits>>i&1 == 1 {
			arcs = append(arcs, pair)
		}
	}
	return arcs
}

// Each graph of up to three nodes; of four, each without arcs from a node to itself; behind Build
// each Grow, alone, the refused ones too.
func TestEverySmallGraph(t *testing.T) {
	for n := range 5 {
		pairs := pairsOf(n, n < 4)
		for bits := range 1 << len(pairs) {
			arcs := chosen(pairs, bits)
			p := build(t, n, arcs)
			if p == nil {
				continue
			}
			for _, more := range pairsOf(n, true) {
				build(t, n, arcs).grow(more.U, more.V)
			}
		}
	}
}

// Each list of up to two arcs in either order, whose ends are nodes or none.
func TestEverySmallList(t *testing.T) {
	var arcs []api.Arc
	for u := -1; u <= 3; u++ {
		for v := -1; v <= 3; v++ {
			arcs = append(arcs, api.Arc{U: u, V: v})
		}
	}
	for n := -1; n <= 3; n++ {
		for _, first := range arcs {
			build(t, n, []api.Arc{first})
			for _, second := range arcs {
				build(t, n, []api.Arc{first, second})
			}
		}
	}
}

// Each list of four Grows over three nodes, behind each graph of at most one arc.
func TestEveryShortListOfGrows(t *testing.T) {
	pairs := pairsOf(3, false)
	begins := [][]api.Arc{nil}
	for _, pair := range pairs {
		begins = append(begins, []api.Arc{pair})
	}
	for _, begin := range begins {
		for list := range 6 * 6 * 6 * 6 {
			p := build(t, 3, begin)
			for left, turn := list, 0; turn < 4; left, turn = left/6, turn+1 {
				p.grow(pairs[left%6].U, pairs[left%6].V)
			}
		}
	}
}

// drawn: arcs that lead on in a drawn order of n nodes, of which some come several times.
func drawn(r *rand.Rand, n, arcs int) []api.Arc {
	place := r.Perm(n)
	var list []api.Arc
	for n > 1 && len(list) < arcs {
		u, v := r.IntN(n), r.IntN(n)
		switch {
		case len(list) > 0 && r.IntN(8) == 0:
			list = append(list, list[r.IntN(len(list))])
		case place[u] < place[v]:
			list = append(list, api.Arc{U: u, V: v})
		case place[u] > place[v]:
			list = append(list, api.Arc{U: v, V: u})
		}
	}
	return list
}

// Build is given the first of some arcs, and the others grow in any order, with others between them of which some close rings.
func TestDrawnGrows(t *testing.T) {
	r := rand.New(rand.NewPCG(11, 1))
	for range 600 {
		n := 1 + r.IntN(12)
		arcs := drawn(r, n, r.IntN(3*n))
		first := r.IntN(len(arcs) + 1)
		p := build(t, n, arcs[:first])
		for _, i := range r.Perm(len(arcs) - first) {
			p.grow(arcs[first+i].U, arcs[first+i].V)
			if r.IntN(3) == 0 {
				p.grow(r.IntN(n+2)-1, r.IntN(n+2)-1)
			}
		}
	}
}

func TestDrawnGreatGraphs(t *testing.T) {
	r := rand.New(rand.NewPCG(11, 2))
	for _, n := range []int{60, 100, 200, 255, 256} {
		for _, arcs := range []int{n / 2, n, 2 * n, 8 * n} {
			p := build(t, n, drawn(r, n, arcs))
			for range 5 {
				p.grow(r.IntN(n), r.IntN(n))
			}
		}
	}
}

// Any arcs: most of these graphs have walks that come back.
func TestDrawnGraphsWithRings(t *testing.T) {
	r := rand.New(rand.NewPCG(11, 3))
	taken := 0
	for range 3000 {
		n := 1 + r.IntN(9)
		var arcs []api.Arc
		for range r.IntN(n + 1) {
			arcs = append(arcs, api.Arc{U: r.IntN(n), V: r.IntN(n)})
		}
		if build(t, n, arcs) != nil {
			taken++
		}
	}
	if taken < 300 || taken > 2700 {
		t.Errorf("of 3000 graphs %d are taken", taken)
	}
}

// allLabels: of each node.
func (p *pair) allLabels() [][]api.Span {
	var all [][]api.Span
	for v := range p.g.n {
		all = append(all, p.c.Label(v))
	}
	return all
}

// orders: all orders of a list.
func orders(list []api.Arc) [][]api.Arc {
	if len(list) == 0 {
		return [][]api.Arc{nil}
	}
	var all [][]api.Arc
	for i, first := range list {
		others := slices.Delete(slices.Clone(list), i, i+1)
		for _, order := range orders(others) {
			all = append(all, append([]api.Arc{first}, order...))
		}
	}
	return all
}

// In whatever order arcs grow, the labels come out alike; Build is given them in whatever order, and all comes out alike.
func TestOrdersOfGrows(t *testing.T) {
	arcs := arcsOf(4, 1, 1, 3, 0, 1, 3, 2, 4, 0)
	grown, built := must(t, 5), build(t, 5, arcs)
	for _, arc := range arcs {
		grown.grow(arc.U, arc.V)
	}
	for _, order := range orders(arcs) {
		p := must(t, 5)
		for _, arc := range order {
			p.wantGrow(arc.U, arc.V, api.OK)
		}
		if !slices.EqualFunc(p.allLabels(), grown.allLabels(), slices.Equal) {
			p.fail("P11.1: the labels are %v, not %v", p.allLabels(), grown.allLabels())
		}
		q := build(t, 5, order)
		if !slices.EqualFunc(q.allLabels(), built.allLabels(), slices.Equal) {
			q.fail("P11.1: the labels are %v, not %v", q.allLabels(), built.allLabels())
		}
		for v := range 5 {
			q.wantNode(v, built.c.Parent(v), built.c.Post(v), built.c.Low(v))
		}
	}
}

// A whole path grows from nodes without arcs, from its end, from its beginning and from within.
func TestPathsGrow(t *testing.T) {
	const n = 24
	r := rand.New(rand.NewPCG(11, 4))
	for _, order := range [][]int{r.Perm(n - 1), r.Perm(n - 1), slices.Sorted(slices.Values(r.Perm(n - 1)))} {
		p, q := must(t, n), must(t, n)
		for _, v := range order {
			p.wantGrow(v, v+1, api.OK)
			q.wantGrow(v+1, v, api.OK)
		}
		for v := range n {
			p.wantLabel(v, v+1, n)
			q.wantLabel(v, 1, v+1)
			p.wantNode(v, -1, v+1, v+1)
		}
	}
}
