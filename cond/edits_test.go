package cond_test

import (
	"math"
	"math/rand/v2"
	"testing"

	"bramble/api"
)

// Each graph of three vertices, those with arcs of a vertex to itself among them, and
// of four without such: behind it each arc that may come or go.
func TestEveryEditOfEverySmallGraph(t *testing.T) {
	for _, vs := range [][]int{{4}, {9, 4}, {4, 9, -3}, {4, -3, 9, 0}} {
		var pairs []api.Arc
		for _, u := range vs {
			for _, v := range vs {
				if u != v || len(vs) < 4 {
					pairs = append(pairs, api.Arc{U: u, V: v})
				}
			}
		}
		for chosen := range 1 << len(pairs) {
			p := newPair(t)
			p.addVertices(vs...)
			for i, pair := range pairs {
				if chosen>>i&1 == 1 {
					p.addArcs(i, pair.U, pair.V)
				}
			}
			for i, pair := range pairs {
				p.addArcs(100, pair.U, pair.V)
				p.dropArcs(100)
				if chosen>>i&1 == 1 {
					p.dropArcs(i)
					p.addArcs(i, pair.U, pair.V)
				}
			}
		}
	}
}

// Each list of four calls that edit, over two vertices and two numbers of arcs, from
// nothing and from both vertices; wrong ones are among them.
func TestEveryShortListOfEdits(t *testing.T) {
	vs := []int{3, -1}
	var calls []func(p *pair)
	for _, v := range vs {
		calls = append(calls, func(p *pair) { p.addVertex(v) }, func(p *pair) { p.dropVertex(v) })
	}
	for e := range 2 {
		calls = append(calls, func(p *pair) { p.dropArc(e) })
		for _, u := range vs {
			for _, v := range vs {
				calls = append(calls, func(p *pair) { p.addArc(e, u, v) })
			}
		}
	}
	n := len(calls)
	for list := range n * n * n * n {
		for _, begin := range [][]int{nil, vs} {
			p := newPair(t, vs...)
			p.addVertices(begin...)
			for turn, rest := 0, list; turn < 4; turn, rest = turn+1, rest/n {
				calls[rest%n](p)
			}
		}
	}
}

// drawing: which edits are drawn.
type drawing struct {
	vs, es []int
	edits  int
	// How many of ten edits add an arc, and how many drop one; the others are of vertices.
	add, drop int
}

// run makes the drawn edits, over vertices of which most are there from the beginning.
func (d drawing) run(t *testing.T, r *rand.Rand) {
	t.Helper()
	p := newPair(t, d.vs...)
	for _, v := range d.vs {
		if r.IntN(8) > 0 {
			p.addVertex(v)
		}
	}
	any := func(list []int) int { return list[r.IntN(len(list))] }
	for range d.edits {
		switch kind := r.IntN(10); {
		case kind < d.add:
			p.addArc(any(d.es), any(d.vs), any(d.vs))
		case kind < d.add+d.drop:
			p.dropArc(any(d.es))
		case r.IntN(3) > 0:
			p.addVertex(any(d.vs))
		default:
			p.dropVertex(any(d.vs))
		}
	}
}

// numbers: n numbers from first on.
func numbers(first, n int) []int {
	var list []int
	for i := range n {
		list = append(list, first+i)
	}
	return list
}

func TestDrawnEdits(t *testing.T) {
	r := rand.New(rand.NewPCG(10, 1))
	for turn := range 300 {
		n := 2 + turn%9
		drawing{numbers(-n/2, n), numbers(-n, 2*n), 60, 5, 3}.run(t, r)
		drawing{numbers(-n/2, n), numbers(-n, 2*n), 60, 4, 4}.run(t, r)
		drawing{numbers(0, n), numbers(0, 4*n), 60, 7, 2}.run(t, r)
	}
}

func TestDrawnEditsOfMany(t *testing.T) {
	r := rand.New(rand.NewPCG(10, 2))
	for range 6 {
		drawing{numbers(0, 25), numbers(0, 45), 200, 5, 3}.run(t, r)
		drawing{numbers(-12, 25), numbers(-20, 30), 200, 6, 3}.run(t, r)
	}
}

func TestDrawnEditsOfAnyNumbers(t *testing.T) {
	r := rand.New(rand.NewPCG(10, 3))
	ends := []int{math.MinInt, math.MinInt + 1, -1 << 40, -1, 0, 1, 1 << 40, math.MaxInt - 1, math.MaxInt}
	for range 60 {
		drawing{ends, ends, 60, 6, 3}.run(t, r)
	}
}

// Rings of drawn sizes are joined by drawn arcs, which then go in another order.
func TestDrawnRings(t *testing.T) {
	r := rand.New(rand.NewPCG(10, 4))
	for range 60 {
		n := 4 + r.IntN(12)
		vs := r.Perm(3 * n)[:n]
		p := newPair(t)
		p.addVertices(vs...)
		for begin := 0; begin < n; {
			size := 1 + r.IntN(n-begin)
			for i := range size {
				p.addArcs(begin+i, vs[begin+i], vs[begin+(i+1)%size])
			}
			begin += size
		}
		for i := range n {
			p.addArcs(n+i, vs[r.IntN(n)], vs[r.IntN(n)])
		}
		p.dropArcs(r.Perm(2 * n)...)
	}
}
