package cond_test

import (
	"math/rand/v2"
	"slices"
	"testing"

	"bramble/api"
	"bramble/cond"
)

// One arc closes a ring over components of several sizes; what hangs at them stays outside.
func TestRingOverManyComponents(t *testing.T) {
	p := newPair(t)
	p.addVertices(1, 2, 3, 4, 5, 6, 7, 8, 9, 10)
	p.addArcs(1, 1, 6, 2, 6, 1)                         // 1 6
	p.addArcs(3, 2, 5, 4, 5, 9, 5, 9, 2)                // 2 5 9
	p.addArcs(6, 10, 1, 7, 6, 5, 8, 2, 3, 9, 3, 8)      // 10 to 1 6 to 2 5 9 to 3 to 8
	p.addArcs(10, 4, 1, 11, 3, 7, 12, 4, 7, 13, 10, 10) // 4 to 1 6; 3 and 4 to 7
	p.wantComps([]int{1, 6}, []int{2, 5, 9}, []int{3}, []int{4}, []int{7}, []int{8}, []int{10})
	p.wantArcs(1, 2, 2, 3, 3, 7, 3, 8, 4, 1, 4, 7, 10, 1)
	p.addArcs(20, 8, 10)
	p.wantComps([]int{1, 2, 3, 5, 6, 8, 9, 10}, []int{4}, []int{7})
	p.wantArcs(1, 7, 4, 1, 4, 7)
	p.dropArcs(20)
	p.wantComps([]int{1, 6}, []int{2, 5, 9}, []int{3}, []int{4}, []int{7}, []int{8}, []int{10})
	p.wantArcs(1, 2, 2, 3, 3, 7, 3, 8, 4, 1, 4, 7, 10, 1)
}

// Of two ways round, both come in; what only leaves the one end or only enters the other doesn't.
func TestRingByTwoWays(t *testing.T) {
	p := newPair(t)
	p.addVertices(1, 2, 3, 4, 5, 6)
	p.addArcs(1, 1, 2, 2, 1, 3, 3, 2, 4, 4, 3, 4, 5, 1, 5, 6, 6, 4)
	p.addArcs(7, 4, 1)
	p.wantComps([]int{1, 2, 3, 4}, []int{5}, []int{6})
	p.wantArcs(1, 5, 6, 1)
	p.dropArcs(1)
	p.wantComps([]int{1, 3, 4}, []int{2}, []int{5}, []int{6})
	p.wantArcs(1, 5, 2, 1, 6, 1)
	p.dropArcs(4)
	p.wantComps([]int{1}, []int{2}, []int{3}, []int{4}, []int{5}, []int{6})
	p.wantArcs(1, 3, 1, 5, 2, 4, 4, 1, 6, 4)
}

func TestArcWithinComponent(t *testing.T) {
	p := newPair(t)
	p.addVertices(1, 2, 3, 4)
	p.addArcs(1, 1, 2, 2, 2, 3, 3, 3, 4, 4, 4, 1)
	p.addArcs(5, 2, 4, 6, 4, 2, 7, 1, 1, 8, 3, 1, 9, 1, 2)
	p.wantComps([]int{1, 2, 3, 4})
	p.dropArcs(6, 7, 9, 5, 8)
	p.wantComps([]int{1, 2, 3, 4})
}

// An arc that goes parts a component into two, into many, into its single vertices, or not at all.
func TestPartings(t *testing.T) {
	for _, c := range []struct {
		name  string
		arcs  []int
		drop  int
		comps [][]int
		ends  []int
	}{
		{"not at all", []int{1, 1, 2, 2, 2, 3, 3, 3, 4, 4, 4, 1, 5, 1, 3, 6, 2, 4}, 2, [][]int{{1, 2, 3, 4}}, nil},
		{"into one alone and the others", []int{1, 1, 2, 2, 2, 3, 3, 3, 1, 4, 1, 4, 5, 4, 3}, 4, [][]int{{1, 2, 3}, {4}}, []int{4, 1}},
		{"of one pair", []int{1, 1, 2, 2, 2, 3, 3, 3, 4, 4, 4, 1, 5, 2, 3}, 2, [][]int{{1, 2, 3, 4}}, nil},
		{"a chord", []int{1, 1, 2, 2, 2, 3, 3, 3, 4, 4, 4, 1, 5, 1, 3}, 5, [][]int{{1, 2, 3, 4}}, nil},
		{"into two", []int{1, 1, 3, 2, 3, 1, 3, 2, 4, 4, 4, 2, 5, 3, 2, 6, 4, 1}, 6, [][]int{{1, 3}, {2, 4}}, []int{1, 2}},
		{"into two, the other way", []int{1, 1, 3, 2, 3, 1, 3, 2, 4, 4, 4, 2, 5, 3, 2, 6, 4, 1}, 5, [][]int{{1, 3}, {2, 4}}, []int{2, 1}},
		{"into single ones", []int{1, 1, 2, 2, 2, 3, 3, 3, 4, 4, 4, 1}, 4, [][]int{{1}, {2}, {3}, {4}}, []int{1, 2, 2, 3, 3, 4}},
		{"into single ones, in the midst", []int{1, 3, 1, 2, 1, 4, 3, 4, 2, 4, 2, 3}, 3, [][]int{{1}, {2}, {3}, {4}}, []int{1, 4, 2, 3, 3, 1}},
		{"into single ones and one of two", []int{1, 1, 2, 2, 2, 3, 3, 3, 2, 4, 3, 4, 5, 4, 1}, 5, [][]int{{1}, {2, 3}, {4}}, []int{1, 2, 2, 4}},
	} {
		t.Run(c.name, func(t *testing.T) {
			p := newPair(t)
			p.addVertices(4, 2, 1, 3)
			p.addArcs(c.arcs...)
			p.wantComps([]int{1, 2, 3, 4})
			gone := p.g.arcs[c.drop]
			p.dropArcs(c.drop)
			p.wantComps(c.comps...)
			p.wantArcs(c.ends...)
			p.addArcs(c.drop, gone.U, gone.V)
			p.wantComps([]int{1, 2, 3, 4})
			p.wantArcs()
		})
	}
}

// A ring of rings falls into its rings, which keep what they have.
func TestPartingIntoMany(t *testing.T) {
	const rings = 5
	p := newPair(t)
	var comps [][]int
	for i := range rings {
		p.addVertices(i, rings+i, 2*rings+i)
		p.addArcs(10*i, i, rings+i, 10*i+1, rings+i, 2*rings+i, 10*i+2, 2*rings+i, i)
		comps = append(comps, []int{i, rings + i, 2*rings + i})
	}
	p.wantComps(comps...)
	for i := range rings {
		p.addArcs(100+i, rings+i, 2*rings+(i+1)%rings)
	}
	p.wantComps([]int{0, 1, 2, 3, 4, 5, 6, 7, 8, 9, 10, 11, 12, 13, 14})
	p.dropArcs(102)
	p.wantComps(comps...)
	p.wantArcs(0, 1, 1, 2, 3, 4, 4, 0)
	p.dropArcs(10)
	p.wantComps([]int{0, 5, 10}, []int{1}, []int{2, 7, 12}, []int{3, 8, 13}, []int{4, 9, 14}, []int{6}, []int{11})
	p.wantArcs(0, 11, 3, 4, 4, 0, 6, 2, 6, 11, 11, 1)
}

// Of a ring within a ring the outer one holds without the inner one's arcs, and the inner one without the outer's.
func TestRingWithinRing(t *testing.T) {
	build := func() *pair {
		p := newPair(t)
		p.addVertices(1, 2, 3, 4, 5, 6)
		p.addArcs(1, 1, 2, 2, 2, 3, 3, 3, 4, 4, 4, 5, 5, 5, 6, 6, 6, 1)
		p.addArcs(7, 4, 2)
		p.wantComps([]int{1, 2, 3, 4, 5, 6})
		return p
	}
	p := build()
	p.dropArcs(7)
	p.wantComps([]int{1, 2, 3, 4, 5, 6})
	p = build()
	p.dropArcs(5)
	p.wantComps([]int{1}, []int{2, 3, 4}, []int{5}, []int{6})
	p.wantArcs(1, 2, 2, 5, 6, 1)
	p.dropArcs(3)
	p.wantComps([]int{1}, []int{2}, []int{3}, []int{4}, []int{5}, []int{6})
	p.wantArcs(1, 2, 2, 3, 4, 2, 4, 5, 6, 1)
	p.addArcs(5, 5, 6)
	p.addArcs(3, 1, 4)
	p.wantComps([]int{1, 4, 5, 6}, []int{2}, []int{3})
	p.wantArcs(1, 2, 2, 3)
}

// The head of a component is its least vertex, whichever arc makes it.
func TestHeadsOfGrowingComponent(t *testing.T) {
	p := newPair(t)
	p.addVertices(5, 4, 3, 2, 1)
	for v := 5; v > 1; v-- {
		p.addArcs(2*v, v, v-1, 2*v+1, v-1, v)
		if head, ok := p.c.Head(5); head != v-1 || !ok {
			t.Errorf("P10.1: Head(5): %d, %v, not %d", head, ok, v-1)
		}
	}
	for v := 2; v <= 5; v++ {
		p.dropArcs(2*v + 1)
		if head, ok := p.c.Head(5); head != v || !ok {
			t.Errorf("P10.1: Head(5): %d, %v, not %d", head, ok, v)
		}
	}
}

// threes: of arcs, by turns their number and their ends.
func threes(arcs []api.Arc, order []int) []int {
	var list []int
	for _, i := range order {
		list = append(list, i, arcs[i].U, arcs[i].V)
	}
	return list
}

// Arcs come in every order, go in every other order, and come again.
func TestEveryOrderOfArcs(t *testing.T) {
	for _, arcs := range [][]api.Arc{
		{{U: 1, V: 2}, {U: 2, V: 3}, {U: 3, V: 1}, {U: 2, V: 1}},
		{{U: 1, V: 2}, {U: 1, V: 2}, {U: 2, V: 1}, {U: 3, V: 3}},
		{{U: 2, V: 3}, {U: 3, V: 1}, {U: 1, V: 2}, {U: 2, V: 3}},
		{{U: 1, V: 2}, {U: 2, V: 3}, {U: 3, V: 4}, {U: 4, V: 1}},
		{{U: 1, V: 2}, {U: 2, V: 1}, {U: 3, V: 4}, {U: 4, V: 3}},
	} {
		all := orders(len(arcs))
		for _, come := range all {
			for _, leave := range all {
				p := newPair(t)
				p.addVertices(1, 2, 3, 4)
				p.addArcs(threes(arcs, come)...)
				p.dropArcs(leave...)
				p.wantComps([]int{1}, []int{2}, []int{3}, []int{4})
				p.addArcs(threes(arcs, leave[:2])...)
				p.dropArcs(leave[1])
			}
		}
	}
}

// orders: all orders of the numbers below n.
func orders(n int) [][]int {
	if n == 0 {
		return [][]int{nil}
	}
	var all [][]int
	for _, o := range orders(n - 1) {
		for at := range n {
			all = append(all, slices.Insert(slices.Clone(o), at, n-1))
		}
	}
	return all
}

// A long ring is closed and opened by single arcs, and falls into its vertices; its
// vertices lie on it in an order that isn't that of the numbers.
func TestLongRing(t *testing.T) {
	const n = 100000
	ring := rand.New(rand.NewPCG(10, 9)).Perm(n)
	c := cond.New()
	for v := range n {
		c.AddVertex(v)
	}
	for i := range n - 1 {
		if c.AddArc(i, ring[i], ring[i+1]) != api.OK || c.Looked() > 2*n {
			t.Fatalf("P10.2: AddArc(%d): looked at %d", i, c.Looked())
		}
	}
	if len(c.Heads()) != n || len(c.Arcs()) != n-1 {
		t.Fatalf("P10.1: %d heads, %d arcs", len(c.Heads()), len(c.Arcs()))
	}
	for range 2 {
		if c.AddArc(n, ring[n-1], ring[0]) != api.OK || c.Looked() > 2*n {
			t.Fatalf("P10.2: the closing arc: looked at %d", c.Looked())
		}
		if !slices.Equal(c.Heads(), []int{0}) || len(c.Arcs()) != 0 || len(c.Members(n-1)) != n {
			t.Fatalf("P10.1: the ring has %d heads", len(c.Heads()))
		}
		if c.DropArc(n) != api.OK || c.Looked() > 2*n {
			t.Fatalf("P10.2: the arc that goes: looked at %d", c.Looked())
		}
		if len(c.Heads()) != n || len(c.Arcs()) != n-1 {
			t.Fatalf("P10.1: %d heads, %d arcs", len(c.Heads()), len(c.Arcs()))
		}
	}
}
