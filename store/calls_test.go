package store_test

import (
	"math"
	"testing"

	"bramble/api"
)

// fewCalls: those of two vertices and of the edges 1 and 2, and two that are refused always.
func fewCalls() []call {
	const a, b = 3, 7
	all := []call{{"AddEdge", api.Edge{U: a, V: b, Bits: 0xbf800000}}, {"AddVertex", api.Edge{U: -1}}}
	for _, v := range []int{a, b} {
		all = append(all, call{"AddVertex", api.Edge{U: v}}, call{"DropVertex", api.Edge{U: v}})
	}
	for e := 1; e <= 2; e++ {
		all = append(all, call{"DropEdge", api.Edge{E: e}}, call{"Reweigh", api.Edge{E: e, Bits: 5}}, call{"Edge", api.Edge{E: e}})
		for _, ends := range [][2]int{{a, b}, {b, a}, {a, a}} {
			all = append(all, call{"PutEdge", api.Edge{E: e, U: ends[0], V: ends[1], Bits: 5}})
		}
	}
	for _, ends := range [][2]int{{a, b}, {b, a}, {b, b}} {
		all = append(all, call{"AddEdge", api.Edge{U: ends[0], V: ends[1], Bits: 6}})
	}
	return all
}

// Each list of four of these calls, behind two vertices that are there, and all that can be told behind it. (Some calls
// change nothing, so shorter lists are among them.)
func TestEveryShortListOfCalls(t *testing.T) {
	calls := fewCalls()
	n := len(calls)
	for list := range n * n * n * n {
		p := newPair(t)
		p.do(call{"AddVertex", api.Edge{U: 7}})
		p.do(call{"AddVertex", api.Edge{U: 3}})
		for turn, rest := 0, list; turn < 4; turn, rest = turn+1, rest/n {
			p.do(calls[rest%n])
		}
		p.compare(3, 7)
	}
}

// Edges of two vertices that come in each order by PutEdge and go in each order.
func TestEveryOrderOfComingAndGoing(t *testing.T) {
	edges := []api.Edge{{E: 2, U: 1, V: 1, Bits: 1}, {E: 4, U: 1, V: 8, Bits: 2}, {E: 5, U: 8, V: 1, Bits: 3}, {E: 9, U: 1, V: 8, Bits: 4}}
	for _, coming := range orders(len(edges)) {
		for _, going := range orders(len(edges)) {
			p := newPair(t)
			p.must("AddVertex", api.Edge{U: 8}, api.OK)
			p.must("AddVertex", api.Edge{U: 1}, api.OK)
			for _, at := range coming {
				p.must("PutEdge", edges[at], api.OK)
			}
			p.compare()
			for _, at := range going {
				p.must("DropEdge", edges[at], api.OK)
				p.compare()
			}
		}
	}
}

// orders: all orders of the numbers from 0 to n - 1.
func orders(n int) [][]int {
	if n == 0 {
		return [][]int{nil}
	}
	var all [][]int
	for _, rest := range orders(n - 1) {
		for at := range n {
			order := append([]int(nil), rest[:at]...)
			order = append(append(order, n-1), rest[at:]...)
			all = append(all, order)
		}
	}
	return all
}

// some: vertices 0, 5 and MaxId, and the edges 1, 3 and 1024.
func some(t *testing.T) *pair {
	t.Helper()
	p := newPair(t)
	for _, v := range []int{5, 0, 1<<31 - 1} {
		p.must("AddVertex", api.Edge{U: v}, api.OK)
	}
	for _, x := range []api.Edge{{E: 3, U: 5, V: 0, Bits: 7}, {E: 1024, U: 0, V: 0, Bits: 8}, {E: 1, U: 1<<31 - 1, V: 5, Bits: 9}} {
		p.must("PutEdge", x, api.OK)
	}
	return p
}

// undo takes back what the call did, so that the next one finds the graph as this one did.
func (p *pair) undo(c call, free int, before []api.Edge) {
	p.t.Helper()
	switch c.name {
	case "AddVertex":
		p.must("DropVertex", c.x, api.OK)
	case "AddEdge":
		p.must("DropEdge", api.Edge{E: free}, api.OK)
	case "PutEdge":
		p.must("DropEdge", c.x, api.OK)
	case "Reweigh", "DropEdge":
		for _, x := range before {
			if x.E == c.x.E {
				p.do(call{"DropEdge", x})
				p.must("PutEdge", x, api.OK)
			}
		}
	}
}

// faults makes each call with each mixture of right and wrong arguments.
func (p *pair) faults(numbers, vertices []int, bits []uint32) {
	p.t.Helper()
	try := func(c call) {
		p.t.Helper()
		free, before := p.m.free(), append([]api.Edge(nil), p.m.edges...)
		if p.do(c) == api.OK {
			p.undo(c, free, before)
		}
	}
	for _, u := range vertices {
		try(call{"AddVertex", api.Edge{U: u}})
		for _, v := range vertices {
			for _, b := range bits {
				try(call{"AddEdge", api.Edge{U: u, V: v, Bits: b}})
				for _, e := range numbers {
					try(call{"PutEdge", api.Edge{E: e, U: u, V: v, Bits: b}})
				}
			}
		}
	}
	for _, e := range numbers {
		try(call{"Edge", api.Edge{E: e}})
		try(call{"DropEdge", api.Edge{E: e}})
		for _, b := range bits {
			try(call{"Reweigh", api.Edge{E: e, Bits: b}})
		}
	}
	p.compare(vertices...)
	p.read(numbers...)
	p.compare(vertices...)
}

// Calls with no fault, with one, and with several at once: the error is the first one that the call names.
func TestEveryMixtureOfFaults(t *testing.T) {
	numbers := []int{math.MinInt, -1, 0, 1, 2, 3, 1023, 1024, 1025, math.MaxInt}
	vertices := []int{math.MinInt, -1, 0, 4, 5, 1<<31 - 1, 1 << 31, math.MaxInt}
	t.Run("of an empty graph", func(t *testing.T) { newPair(t).faults(numbers, vertices, someBits()) })
	t.Run("of a graph", func(t *testing.T) { some(t).faults(numbers, vertices, someBits()) })
	t.Run("of one that is as great as may be", func(t *testing.T) {
		few := []uint32{0, 0x80000000, 0x7f800000, 0x80000001, 0xffffffff}
		crowded(t).faults([]int{-1, 0, 1, 1024, 1025}, []int{-1, 0, 1000, 1001, 1003, 1 << 31}, few)
	})
}
