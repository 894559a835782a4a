package reach_test

import (
	"math"
	"math/rand/v2"
	"slices"
	"testing"

	"bramble/api"
)

// orders: all orders of the numbers below n.
func orders(n int) [][]int {
	if n == 0 {
		return [][]int{nil}
	}
	var all [][]int
	for _, o := range orders(n - 1) {
		for at := range n {
			all = append(all, slices.Insert(slices.Clone(o), at, n-1))
		}
	}
	return all
}

// numbers: n numbers from first on.
func numbers(first, n int) []int {
	var list []int
	for i := range n {
		list = append(list, first+i)
	}
	return list
}

// Each graph of three vertices, those with arcs of a vertex to itself among them, and
// of four without such: behind it each arc that may come or go.
func TestEveryEditOfEverySmallGraph(t *testing.T) {
	for _, vs := range [][]int{{4}, {9, 4}, {4, 9, -3}, {4, -3, 9, 0}} {
		var pairs []api.Arc
		for _, u := range vs {
			for _, v := range vs {
				if u != v || len(vs) < 4 {
					pairs = append(pairs, api.Arc{U: u, V: v})
				}
			}
		}
		for chosen := range 1 << len(pairs) {
			p := newPair(t)
			p.addVertices(vs...)
			for i, pair := range pairs {
				if chosen>>i&1 == 1 {
					p.addArcs(i, pair.U, pair.V)
				}
			}
			p.askQuiet()
			for i, pair := range pairs {
				if chosen>>i&1 == 1 {
					p.dropArcs(i)
					p.addArcs(i, pair.U, pair.V)
				} else {
					p.addArcs(100, pair.U, pair.V)
					p.dropArcs(100)
				}
			}
			p.askQuiet()
		}
	}
}

// Each list of four calls that edit, over two vertices and two numbers of arcs, from
// both vertices, and of three from nothing; wrong ones are among them.
func TestEveryShortListOfEdits(t *testing.T) {
	vs := []int{3, -1}
	var calls []func(p *pair)
	for _, v := range vs {
		calls = append(calls, func(p *pair) { p.addVertex(v) }, func(p *pair) { p.dropVertex(v) })
	}
	for e := range 2 {
		calls = append(calls, func(p *pair) { p.dropArc(e) })
		for _, u := range vs {
			for _, v := range vs {
				calls = append(calls, func(p *pair) { p.addArc(e, u, v) })
			}
		}
	}
	for _, c := range []struct {
		begin []int
		edits int
	}{{nil, 3}, {vs, 4}} {
		lists := 1
		for range c.edits {
			lists *= len(calls)
		}
		for list := range lists {
			p := newPair(t, vs...)
			p.addVertices(c.begin...)
			for turn, rest := 0, list; turn < c.edits; turn, rest = turn+1, rest/len(calls) {
				calls[rest%len(calls)](p)
			}
			p.askQuiet()
		}
	}
}

// drawing: which edits are drawn.
type drawing struct {
	vs, es []int
	edits  int
	// How many of ten edits add an arc, and how many drop one; the others are of vertices.
	add, drop int
}

// run makes the drawn edits, over vertices of which most are there from the beginning.
func (d drawing) run(t *testing.T, r *rand.Rand) {
	t.Helper()
	p := newPair(t, d.vs...)
	for _, v := range d.vs {
		if r.IntN(8) > 0 {
			p.addVertex(v)
		}
	}
	any := func(list []int) int { return list[r.IntN(len(list))] }
	for range d.edits {
		switch kind := r.IntN(10); {
		case kind < d.add:
			p.addArc(any(d.es), any(d.vs), any(d.vs))
		case kind < d.add+d.drop:
			p.dropArc(any(d.es))
		case r.IntN(3) > 0:
			p.addVertex(any(d.vs))
		default:
			p.dropVertex(any(d.vs))
		}
		if r.IntN(8) == 0 {
			p.askQuiet()
		}
	}
	p.askQuiet()
}

func TestDrawnEdits(t *testing.T) {
	r := rand.New(rand.NewPCG(12, 1))
	for turn := range 90 {
		n := 2 + turn%9
		drawing{numbers(-n/2, n), numbers(-n, 2*n), 60, 5, 3}.run(t, r)
		drawing{numbers(-n/2, n), numbers(-n, 2*n), 60, 4, 4}.run(t, r)
		drawing{numbers(0, n), numbers(0, 4*n), 60, 7, 2}.run(t, r)
	}
}

func TestDrawnEditsOfMany(t *testing.T) {
	r := rand.New(rand.NewPCG(12, 2))
	for range 3 {
		drawing{numbers(0, 25), numbers(0, 45), 150, 5, 3}.run(t, r)
		drawing{numbers(-12, 25), numbers(-20, 30), 150, 6, 3}.run(t, r)
	}
}

func TestDrawnEditsAtTheEndsOfInt(t *testing.T) {
	r := rand.New(rand.NewPCG(12, 3))
	ends := []int{math.MinInt, math.MinInt + 1, -1 << 40, -1, 0, 1, 1 << 40, math.MaxInt - 1, math.MaxInt}
	for range 40 {
		drawing{ends, ends, 60, 6, 3}.run(t, r)
	}
}

// Arcs come in every order, go in every other order, and come again.
func TestEveryOrderOfArcs(t *testing.T) {
	for _, arcs := range [][]api.Arc{
		{{U: 1, V: 2}, {U: 2, V: 3}, {U: 3, V: 1}, {U: 2, V: 1}},
		{{U: 1, V: 2}, {U: 1, V: 2}, {U: 2, V: 1}, {U: 3, V: 3}},
		{{U: 1, V: 3}, {U: 2, V: 3}, {U: 3, V: 4}, {U: 1, V: 4}},
		{{U: 1, V: 2}, {U: 2, V: 1}, {U: 3, V: 4}, {U: 4, V: 3}},
	} {
		all := orders(len(arcs))
		for _, come := range all {
			for _, leave := range all {
				p := newPair(t)
				p.addVertices(1, 2, 3, 4)
				for _, i := range come {
					p.addArcs(i, arcs[i].U, arcs[i].V)
				}
				p.dropArcs(leave...)
				p.wantComps([]int{1}, []int{2}, []int{3}, []int{4})
			}
		}
	}
}
