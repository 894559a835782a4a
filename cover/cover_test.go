package cover_test

import (
	"math"
	"slices"
	"testing"

	"bramble/api"
	"bramble/cover"
)

// The chapter's examples, row by row.
func TestExamples(t *testing.T) {
	p := must(t, 5, 0, 2, 1, 2, 2, 3, 1, 4)
	p.wantNode(0, -1, 3, 1)
	p.wantNode(1, -1, 5, 4)
	p.wantNode(2, 0, 2, 1)
	p.wantNode(3, 2, 1, 1)
	p.wantNode(4, 1, 4, 4)
	p.wantLabel(0, 1, 3)
	p.wantLabel(1, 1, 2, 4, 5)
	p.wantLabel(2, 1, 2)
	p.wantReaches(1, 3, true)
	p.wantReaches(0, 4, false)
	p.wantSize(6)
	p.wantGrow(3, 4, api.OK)
	p.wantLabel(0, 1, 4)
	p.wantLabel(3, 1, 1, 4, 4)
	p.wantGrow(4, 0, api.ErrCycle)
	p.wantGrow(2, 2, api.ErrCycle)
	p.wantGrow(5, 0, api.ErrRange)
}

// refused: Build answers nil and this error.
func refused(t *testing.T, want api.Errno, n int, ends ...int) {
	t.Helper()
	if c, errno := cover.Build(n, arcsOf(ends...)); c != nil || errno != want {
		t.Errorf("P11.1: Build(%d, %v): %v, %d, not nil, %d", n, ends, c, errno, want)
	}
	if p := build(t, n, arcsOf(ends...)); p != nil {
		t.Errorf("P11.1: Build(%d, %v) isn't refused", n, ends)
	}
}

func TestNumberOfNodes(t *testing.T) {
	for _, n := range []int{math.MinInt, math.MinInt + 1, -1 << 32, -257, -1, 257, 258, 1 << 16, 1 << 32, 1<<32 + 4, math.MaxInt} {
		refused(t, api.ErrRange, n)
		refused(t, api.ErrRange, n, 0, 1)
		refused(t, api.ErrRange, n, 0, 0)
		refused(t, api.ErrRange, n, n, n)
	}
	for _, n := range []int{0, 1, 2, 255, 256} {
		p := must(t, n)
		p.wantSize(n)
		for v := range n {
			p.wantNode(v, -1, v+1, v+1)
			p.wantLabel(v, v+1, v+1)
		}
	}
}

func TestEndsOfArcs(t *testing.T) {
	for _, n := range []int{0, 1, 2, 3, 255, 256} {
		for _, wrong := range []int{-1, -n, n, n + 1, 256, 257, math.MinInt, math.MaxInt, 1 << 32, 1<<32 + 1, -1 << 32, -1<<32 + 1} {
			if wrong >= 0 && wrong < n {
				continue
			}
			refused(t, api.ErrRange, n, wrong, 0)
			refused(t, api.ErrRange, n, 0, wrong)
			refused(t, api.ErrRange, n, wrong, wrong)
			if n > 1 {
				refused(t, api.ErrRange, n, 0, 1, 1, wrong)
				refused(t, api.ErrRange, n, wrong, 1, 0, 1)
			}
		}
	}
	must(t, 256, 255, 0)
	must(t, 256, 0, 255)
	refused(t, api.ErrRange, 255, 255, 0)
}

func TestCycles(t *testing.T) {
	refused(t, api.ErrCycle, 1, 0, 0)
	refused(t, api.ErrCycle, 2, 1, 1)
	refused(t, api.ErrCycle, 2, 0, 1, 1, 0)
	refused(t, api.ErrCycle, 2, 1, 0, 0, 1)
	refused(t, api.ErrCycle, 3, 0, 1, 1, 2, 2, 2)
	refused(t, api.ErrCycle, 3, 0, 1, 1, 2, 2, 0)
	refused(t, api.ErrCycle, 3, 2, 1, 1, 0, 0, 2)
	refused(t, api.ErrCycle, 5, 0, 1, 1, 2, 2, 3, 3, 1, 3, 4)
	for _, n := range []int{3, 100, 256} {
		var ring, back []int
		for v := range n {
			ring = append(ring, v, (v+1)%n)
			back = append(back, (v+1)%n, v)
		}
		refused(t, api.ErrCycle, n, ring...)
		refused(t, api.ErrCycle, n, back...)
		must(t, n, ring[:len(ring)-2]...)
		must(t, n, ring[2:]...)
		must(t, n, back[:len(back)-2]...)
		must(t, n, back[2:]...)
	}
}

// Both errors at once: an end that is no node comes first, wherever its arc stands.
func TestErrorsOfBuildTogether(t *testing.T) {
	refused(t, api.ErrRange, 2, 0, 0, -1, 0)
	refused(t, api.ErrRange, 2, -1, 0, 0, 0)
	refused(t, api.ErrRange, 2, 0, 0, 0, 2)
	refused(t, api.ErrRange, 2, 0, 1, 1, 0, 1, 2)
	refused(t, api.ErrRange, 2, 2, 1, 0, 1, 1, 0)
	refused(t, api.ErrRange, 2, 5, 5)
	refused(t, api.ErrRange, 2, -3, -3)
	refused(t, api.ErrRange, 0, 0, 0)
	refused(t, api.ErrRange, 257, 0, 1, 1, 0)
	refused(t, api.ErrRange, -1, -1, -1)
	refused(t, api.ErrRange, 3, 0, 3, 3, 0)
}

func TestSmallestCovers(t *testing.T) {
	p := must(t, 0)
	p.wantSize(0)
	p.wantGrow(0, 0, api.ErrRange)
	p = must(t, 1)
	p.wantNode(0, -1, 1, 1)
	p.wantLabel(0, 1, 1)
	p.wantReaches(0, 0, true)
	p.wantGrow(0, 0, api.ErrCycle)
	p.wantGrow(0, 1, api.ErrRange)
	p.wantGrow(1, 0, api.ErrRange)
	p.wantGrow(-1, 0, api.ErrRange)
	p.wantSize(1)
}

// A path, along which each node is below the one ahead of it, in either direction.
func TestLongPaths(t *testing.T) {
	for _, n := range []int{2, 3, 64, 256} {
		var on, back []int
		for v := range n - 1 {
			on = append(on, v, v+1)
			back = append(back, v+1, v)
		}
		p := must(t, n, on...)
		q := must(t, n, back...)
		p.wantSize(n)
		q.wantSize(n)
		for v := range n {
			p.wantNode(v, v-1, n-v, 1)
			p.wantLabel(v, 1, n-v)
			if v < n-1 {
				q.wantNode(v, v+1, v+1, 1)
			}
			q.wantLabel(v, 1, v+1)
		}
		q.wantNode(n-1, -1, n, 1)
		p.wantGrow(n-1, 0, api.ErrCycle)
		q.wantGrow(0, n-1, api.ErrCycle)
		p.wantGrow(0, n-1, api.OK)
		q.wantGrow(n-1, 0, api.OK)
	}
}

// The least beginning is the parent, wherever its arc stands in the list.
func TestParents(t *testing.T) {
	for _, arcs := range [][]int{{1, 0, 2, 0, 3, 0}, {3, 0, 2, 0, 1, 0}, {2, 0, 1, 0, 3, 0}, {2, 0, 3, 0, 1, 0, 2, 0, 1, 0}} {
		p := must(t, 4, arcs...)
		p.wantNode(0, 1, 1, 1)
		p.wantNode(1, -1, 2, 1)
		p.wantNode(2, -1, 3, 3)
		p.wantNode(3, -1, 4, 4)
		p.wantLabel(1, 1, 2)
		p.wantLabel(2, 1, 1, 3, 3)
		p.wantLabel(3, 1, 1, 4, 4)
		p.wantSize(6)
	}
	// 0 is the least of all nodes, and a parent like others.
	p := must(t, 3, 1, 2, 0, 2)
	p.wantNode(2, 0, 1, 1)
	p = must(t, 3, 0, 2, 1, 2)
	p.wantNode(2, 0, 1, 1)
	// The least beginning needn't be near: 0 leads on to 3 by 1 and 2 as well.
	p = must(t, 4, 2, 3, 1, 2, 0, 1, 0, 3)
	p.wantNode(3, 0, 3, 3)
	p.wantNode(2, 1, 1, 1)
	p.wantLabel(2, 1, 1, 3, 3)
	p.wantLabel(1, 1, 3)
}

// Several trees: roots rise, and so do those below one node, whatever the arcs' order.
func TestForests(t *testing.T) {
	for _, arcs := range [][]int{{5, 0, 5, 3, 2, 6, 2, 1, 6, 4}, {6, 4, 2, 1, 5, 3, 2, 6, 5, 0}} {
		p := must(t, 7, arcs...)
		p.wantNode(1, 2, 1, 1)
		p.wantNode(4, 6, 2, 2)
		p.wantNode(6, 2, 3, 2)
		p.wantNode(2, -1, 4, 1)
		p.wantNode(0, 5, 5, 5)
		p.wantNode(3, 5, 6, 6)
		p.wantNode(5, -1, 7, 5)
		p.wantSize(7)
		p.wantGrow(4, 5, api.OK)
		p.wantLabel(2, 1, 7)
		p.wantLabel(6, 2, 3, 5, 7)
		p.wantLabel(4, 2, 2, 5, 7)
		p.wantNode(5, -1, 7, 5)
		p.wantSize(9)
	}
}

// Everything leads on to everything: in both directions, and in an order that isn't that of the numbers.
func TestWhollyJoined(t *testing.T) {
	for _, n := range []int{2, 3, 10, 256} {
		var on, back, mixed []int
		// 7 divides none of the numbers of nodes, so each has a place of its own.
		place := func(v int) int { return v * 7 % n }
		for u := range n {
			for v := range u {
				on = append(on, v, u)
				back = append(back, u, v)
				mixed = append(mixed, place(u), place(v))
			}
		}
		p := must(t, n, on...)
		q := must(t, n, back...)
		must(t, n, mixed...)
		p.wantNode(0, -1, n, 1)
		q.wantNode(n-1, -1, n, 1)
		for v := range n {
			p.wantReaches(0, v, true)
			p.wantReaches(v, 0, v == 0)
			q.wantReaches(n-1, v, true)
		}
		p.wantGrow(0, n-1, api.OK)
		p.wantGrow(n-1, 0, api.ErrCycle)
	}
}

// Arcs that come twice or many times are as if they came once.
func TestArcsThatComeAgain(t *testing.T) {
	once := arcsOf(0, 2, 1, 2, 2, 3, 1, 4)
	want := must(t, 5, 0, 2, 1, 2, 2, 3, 1, 4)
	for _, times := range []int{2, 3, 1000} {
		p := build(t, 5, slices.Repeat(once, times))
		var each []api.Arc
		for _, arc := range once {
			each = append(each, slices.Repeat([]api.Arc{arc}, times)...)
		}
		q := build(t, 5, each)
		for v := range 5 {
			if !slices.Equal(p.c.Label(v), want.c.Label(v)) || !slices.Equal(q.c.Label(v), want.c.Label(v)) {
				t.Errorf("P11.1: Label(%d): %v, %v, not %v", v, p.c.Label(v), q.c.Label(v), want.c.Label(v))
			}
		}
	}
}

func TestErrorsOfGrow(t *testing.T) {
	p := must(t, 3, 0, 1, 1, 2)
	for _, wrong := range []int{-1, 3, 4, 256, math.MinInt, math.MaxInt, 1 << 32, -1 << 32, 1<<32 + 1} {
		p.wantGrow(wrong, 0, api.ErrRange)
		p.wantGrow(0, wrong, api.ErrRange)
		// Both errors at once: what leads from a number to itself would be a cycle.
		p.wantGrow(wrong, wrong, api.ErrRange)
	}
	for v := range 3 {
		p.wantGrow(v, v, api.ErrCycle)
	}
	p.wantGrow(1, 0, api.ErrCycle)
	p.wantGrow(2, 0, api.ErrCycle)
	p.wantGrow(2, 1, api.ErrCycle)
	p.wantSize(3)
	p.wantLabel(2, 1, 1)
}

// An arc that is there, one within a tree, one that joins two trees: labels change where they must, the forest never does.
func TestGrow(t *testing.T) {
	p := must(t, 6, 0, 1, 1, 2, 3, 4)
	stays := func() {
		t.Helper()
		p.wantNode(0, -1, 3, 1)
		p.wantNode(1, 0, 2, 1)
		p.wantNode(2, 1, 1, 1)
		p.wantNode(3, -1, 5, 4)
		p.wantNode(4, 3, 4, 4)
		p.wantNode(5, -1, 6, 6)
	}
	stays()
	p.wantGrow(0, 1, api.OK)
	p.wantGrow(0, 2, api.OK)
	p.wantSize(6)
	// A lesser node than its parent, and a root that gets an arc.
	p.wantGrow(2, 4, api.OK)
	p.wantLabel(2, 1, 1, 4, 4)
	p.wantLabel(1, 1, 2, 4, 4)
	p.wantLabel(0, 1, 4)
	p.wantSize(8)
	stays()
	p.wantGrow(2, 3, api.OK)
	p.wantLabel(2, 1, 1, 4, 5)
	p.wantLabel(0, 1, 5)
	p.wantGrow(4, 5, api.OK)
	p.wantLabel(0, 1, 6)
	p.wantLabel(1, 1, 2, 4, 6)
	p.wantLabel(3, 4, 6)
	p.wantLabel(4, 4, 4, 6, 6)
	p.wantGrow(5, 2, api.ErrCycle)
	p.wantGrow(5, 0, api.ErrCycle)
	p.wantGrow(4, 5, api.OK)
	p.wantSize(9)
	stays()
}

// What was refused for a cycle may come in the other direction, and then keeps the first one out.
func TestTheOtherDirection(t *testing.T) {
	p := must(t, 2)
	p.wantGrow(1, 0, api.OK)
	p.wantGrow(0, 1, api.ErrCycle)
	p.wantNode(0, -1, 1, 1)
	p.wantNode(1, -1, 2, 2)
	p.wantLabel(1, 1, 2)
	p = must(t, 2)
	p.wantGrow(0, 1, api.OK)
	p.wantGrow(1, 0, api.ErrCycle)
	p.wantLabel(0, 1, 2)
	p.wantLabel(1, 2, 2)
}
