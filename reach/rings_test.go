package reach_test

import (
	"math/rand/v2"
	"testing"
)

// closeRing: arcs from e on lead from each of these vertices to the next one, and from the last to the first.
func (p *pair) closeRing(e int, vs []int) {
	p.t.Helper()
	for i, v := range vs {
		p.addArcs(e+i, v, vs[(i+1)%len(vs)])
	}
}

// A ring of two, of many, of all: it breaks at each of its arcs, and closes again.
func TestRingBreaksAtEachArc(t *testing.T) {
	r := rand.New(rand.NewPCG(12, 4))
	const all = 9
	for size := 2; size <= all; size++ {
		p := newPair(t)
		p.addVertices(numbers(0, all)...)
		ring := r.Perm(all)[:size]
		p.closeRing(0, ring)
		for cut := range size {
			if got := len(p.x.Members(ring[0])); got != size {
				p.fail("P12.1: the ring has %d vertices, not %d", got, size)
			}
			p.dropArcs(cut)
			// From the arc's end one comes all round, from its beginning nowhere.
			p.want(p.x.Reach(ring[(cut+1)%size], ring[cut]), true)
			p.wantReached(ring[cut], ring[cut])
			p.want(len(p.x.Heads()) == all, true)
			p.addArcs(cut, ring[cut], ring[(cut+1)%size])
		}
		p.askQuiet()
	}
}

// Two rings have an arc from the one to the other; one that leads back makes one component of them, and either one parts them again.
func TestTwoRings(t *testing.T) {
	p := newPair(t)
	p.addVertices(1, 2, 3, 4, 5, 6, 7)
	p.closeRing(10, []int{1, 4, 6})
	p.closeRing(20, []int{5, 2})
	p.addArcs(30, 6, 2, 31, 7, 4, 32, 5, 3)
	p.wantComps([]int{1, 4, 6}, []int{2, 5}, []int{3}, []int{7})
	p.wantReached(1, 1, 2, 3, 4, 5, 6)
	p.wantReached(5, 2, 3, 5)
	for range 2 {
		p.addArcs(33, 5, 1)
		p.wantComps([]int{1, 2, 4, 5, 6}, []int{3}, []int{7})
		p.wantReached(2, 1, 2, 3, 4, 5, 6)
		p.dropArcs(33)
		p.wantComps([]int{1, 4, 6}, []int{2, 5}, []int{3}, []int{7})
		p.wantReached(2, 2, 3, 5)
	}
	p.addArcs(33, 5, 1)
	p.dropArcs(30)
	p.wantComps([]int{1, 4, 6}, []int{2, 5}, []int{3}, []int{7})
	p.wantReached(2, 1, 2, 3, 4, 5, 6)
	p.wantReached(1, 1, 4, 6)
	p.dropArcs(11, 20)
	p.wantComps([]int{1}, []int{2}, []int{3}, []int{4}, []int{5}, []int{6}, []int{7})
	p.wantReached(5, 1, 3, 4, 5)
	p.wantReached(7, 4, 7)
	p.askQuiet()
}

// Arcs within a component lead nowhere else; of those between two one may go while another stays.
func TestArcsWithinAndBetween(t *testing.T) {
	p := newPair(t)
	p.addVertices(1, 2, 3, 4, 5, 6)
	p.closeRing(10, []int{1, 2, 3})
	p.closeRing(20, []int{4, 5})
	p.addArcs(30, 3, 2, 31, 1, 3, 32, 2, 2, 33, 4, 5)
	p.wantReached(1, 1, 2, 3)
	p.wantReached(5, 4, 5)
	p.dropArcs(11)
	p.wantComps([]int{1, 3}, []int{2}, []int{4, 5}, []int{6})
	p.wantReached(3, 1, 2, 3)
	p.wantReached(2, 2)
	p.addArcs(40, 5, 6, 41, 2, 4, 42, 1, 4)
	p.wantReached(3, 1, 2, 3, 4, 5, 6)
	p.dropArcs(41)
	p.wantReached(3, 1, 2, 3, 4, 5, 6)
	p.wantReached(2, 2)
	p.dropArcs(42)
	p.wantReached(3, 1, 2, 3)
	p.wantReached(4, 4, 5, 6)
	p.askQuiet()
}

// A path is cut in the midst; it leads up the numbers, down, and in no order of theirs.
func TestPathCut(t *testing.T) {
	const n = 16
	down := numbers(0, n)
	for i := range down {
		down[i] = n - 1 - i
	}
	for _, path := range [][]int{numbers(0, n), down, rand.New(rand.NewPCG(12, 5)).Perm(n)} {
		p := newPair(t)
		p.addVertices(numbers(0, n)...)
		for i := range n - 1 {
			p.addArcs(i, path[i], path[i+1])
		}
		p.wantWalk(path[0], path[n-1], numbers(0, n-1))
		p.wantWalk(path[3], path[6], numbers(3, 3))
		for _, cut := range []int{n / 2, 0, n - 2} {
			p.dropArcs(cut)
			p.wantNoWalk(path[0], path[n-1])
			p.wantNoWalk(path[cut], path[cut+1])
			p.wantWalk(path[cut+1], path[n-1], numbers(cut+1, n-2-cut))
			p.addArcs(cut, path[cut], path[cut+1])
		}
		p.wantWalk(path[0], path[n-1], numbers(0, n-1))
		p.askQuiet()
	}
}

// Rings of drawn sizes are joined by drawn arcs, which then go in another order.
func TestDrawnRings(t *testing.T) {
	r := rand.New(rand.NewPCG(12, 6))
	for range 30 {
		n := 4 + r.IntN(10)
		vs := r.Perm(3 * n)[:n]
		p := newPair(t)
		p.addVertices(vs...)
		for begin := 0; begin < n; {
			size := 1 + r.IntN(n-begin)
			p.closeRing(begin, vs[begin:begin+size])
			begin += size
		}
		for i := range n {
			p.addArcs(n+i, vs[r.IntN(n)], vs[r.IntN(n)])
		}
		p.dropArcs(r.Perm(2 * n)...)
		p.askQuiet()
	}
}
