package check_test

import (
	"bytes"
	"encoding/hex"
	"math"
	"slices"
	"testing"

	"bramble/api"
	"bramble/check"
	"bramble/store"
)

const (
	one      = 0x3f800000
	two      = 0x40000000
	many     = 0x4b800000 // 2^24: the sum of it and 1 lies between two
	greatest = 0x7f7fffff
	plusInf  = 0x7f800000
	minus0   = 0x80000000
)

// chapter: the graph of the chapter's examples.
func chapter(t *testing.T) *store.Store {
	t.Helper()
	s := store.New()
	s.AddVertex(5)
	s.AddVertex(9)
	if e, errno := s.AddEdge(5, 9, one); e != 1 || errno != api.OK {
		t.Fatalf("AddEdge: %d, %d", e, errno)
	}
	return s
}

func TestExamples(t *testing.T) {
	s := chapter(t)
	accepted := api.Witness{From: 5, To: 9, Bits: one, Edges: []int{1}}
	wantCheck(t, s, accepted, 0, api.OK)
	wantCheck(t, s, api.Witness{From: 5, To: 9, Bits: 0x3f800001, Edges: []int{1}}, 0, api.ErrCost)
	wantCheck(t, s, api.Witness{From: 5, To: 5, Bits: one, Edges: []int{1}}, 0, api.ErrEnd)
	wantCheck(t, s, api.Witness{From: 9, To: 9, Edges: []int{1}}, 0, api.ErrBroken)
	wantCheck(t, s, api.Witness{From: 5, To: 9, Edges: []int{1, 7}}, 1, api.ErrNoEdge)
	wantCheck(t, s, api.Witness{From: 5, To: 5}, 0, api.OK)
	wantCheck(t, s, api.Witness{From: 7, To: 7}, 0, api.ErrNoVertex)
	wantNone(t, s, nil)
	if place, errno := check.Claim(s, 5, 9, one, bytesOf(t, accepted)); place != 0 || errno != api.OK {
		t.Fatalf("P17.1: Claim(5, 9, 1): %d, %d", place, errno)
	}
	wantClaim(t, s, 5, 9, 0, accepted)
}

// The bytes of the chapter's first row and of the examples of the whole, written out.
func TestExamplesOfTheWhole(t *testing.T) {
	s := store.New()
	s.AddVertex(1)
	s.AddVertex(2)
	s.AddEdge(1, 2, one)
	right := unhex(t, "b701020000803f0101")
	wantBytes(t, s, api.Witness{From: 1, To: 2, Bits: one, Edges: []int{1}}, right, 0, api.OK)
	wantBytes(t, s, api.Witness{From: 1, To: 2, Bits: one, Edges: []int{2}}, unhex(t, "b701020000803f0102"), 0, api.ErrNoEdge)
	s.DropEdge(1)
	wantBytes(t, s, api.Witness{From: 1, To: 2, Bits: one, Edges: []int{1}}, right, 0, api.ErrNoEdge)
	wantBytes(t, chapter(t), api.Witness{From: 5, To: 9, Bits: one, Edges: []int{1}}, []byte{183, 5, 9, 0, 0, 128, 63, 1, 1}, 0, api.OK)
}

func unhex(t *testing.T, s string) []byte {
	t.Helper()
	b, err := hex.DecodeString(s)
	if err != nil {
		t.Fatal(err)
	}
	return b
}

func TestNumbersOfErrors(t *testing.T) {
	for errno, want := range map[api.Errno]int{
		api.ErrWitness: 160, api.ErrClaim: 172, api.ErrNoVertex: 5, api.ErrNoEdge: 6, api.ErrBroken: 80, api.ErrEnd: 170, api.ErrCost: 171,
	} {
		if int(errno) != want {
			t.Errorf("%d is not %d", errno, want)
		}
	}
}

// A graph without a vertex accepts nothing, though it may have edges.
func TestNoVertexAtAll(t *testing.T) {
	none, edges := newBook(), newBook(edge(5, 9, one), edge(5, 5, 0))
	clear(edges.vertices)
	for _, g := range []check.Graph{none, edges, store.New()} {
		for _, w := range []api.Witness{
			{}, {From: 5, To: 5}, {From: 5, To: 9, Bits: one, Edges: []int{1}}, {From: 5, To: 5, Edges: []int{2}}, {From: 5, To: 9, Edges: []int{9}},
			{From: api.MaxId, To: api.MaxId}, {To: api.MaxId, Bits: 7, Edges: []int{1024, 1}},
		} {
			wantCheck(t, g, w, 0, api.ErrNoVertex)
		}
		wantNone(t, g, nil)
		wantNone(t, g, []byte{183})
	}
}

// Ends that are no vertices are told ahead of all that is wrong with the walk, be it From, To or both.
func TestNoVertex(t *testing.T) {
	g := newBook(edge(5, 9, one), edge(9, 7, one), edge(7, 5, one), edge(7, 7, one))
	g.vertices[7] = false
	for _, es := range [][]int{nil, {1}, {1, 2}, {3}, {3, 1}, {4}, {9}, {1, 9}, {1, 1}, {2}, {3, 9}} {
		for _, bits := range []uint32{0, one, two, plusInf} {
			for _, ends := range [][2]int{{5, 7}, {7, 5}, {7, 9}, {9, 7}, {7, 7}, {7, 0}, {0, 5}, {5, 0}, {0, 0}, {0, api.MaxId}, {api.MaxId, 9}} {
				wantCheck(t, g, api.Witness{From: ends[0], To: ends[1], Bits: bits, Edges: es}, 0, api.ErrNoVertex)
			}
		}
	}
	wantCheck(t, g, api.Witness{From: 5, To: 5, Bits: 0x40400000, Edges: []int{1, 2, 3}}, 0, api.OK) // by what is no vertex
}

// The least and the greatest number that a vertex and an edge may have.
func TestEndsOfNumbers(t *testing.T) {
	g := newBook(edge(0, api.MaxId, one))
	g.edges[1024] = edge(api.MaxId, 0, two)
	wantCheck(t, g, api.Witness{From: 0, To: api.MaxId, Bits: one, Edges: []int{1}}, 0, api.OK)
	wantCheck(t, g, api.Witness{From: api.MaxId, To: 0, Bits: two, Edges: []int{1024}}, 0, api.OK)
	wantCheck(t, g, api.Witness{From: api.MaxId, To: api.MaxId, Bits: 0x40400000, Edges: []int{1024, 1}}, 0, api.OK)
	wantCheck(t, g, api.Witness{From: 0, To: 0, Edges: []int{1023}}, 0, api.ErrNoEdge)
	wantCheck(t, g, api.Witness{From: 0, To: 0, Edges: []int{1, 1024, 1, 1023}}, 3, api.ErrNoEdge)
}

// A walk of no edge leads from each vertex to itself, and costs 0.
func TestNoEdges(t *testing.T) {
	g := newBook(edge(5, 9, 0), edge(5, 5, one))
	wantCheck(t, g, api.Witness{From: 9, To: 9}, 0, api.OK)
	wantCheck(t, g, api.Witness{From: 9, To: 9, Edges: []int{}}, 0, api.OK)
	wantCheck(t, g, api.Witness{From: 5, To: 9}, 0, api.ErrEnd)
	wantCheck(t, g, api.Witness{From: 9, To: 5}, 0, api.ErrEnd)
	for _, bits := range []uint32{1, one, minus0, plusInf, 0x7fc00000, 0xffffffff} {
		wantCheck(t, g, api.Witness{From: 9, To: 9, Bits: bits}, 0, api.ErrCost)
		wantCheck(t, g, api.Witness{From: 9, To: 5, Bits: bits}, 0, api.ErrEnd)
	}
}

// path: n edges from 0 to 1, from there to 2 and so on, all of weight 0, and the witness of the walk along them.
func path(n int) (*book, api.Witness) {
	g, w := newBook(), api.Witness{To: n}
	g.vertices[0] = true
	for i := range n {
		g.edges[i+1] = edge(i, i+1, 0)
		g.vertices[i+1] = true
		w.Edges = append(w.Edges, i+1)
	}
	return g, w
}

// turned: w, with another edge at one place.
func turned(w api.Witness, place, e int) api.Witness {
	w.Edges = slices.Clone(w.Edges)
	w.Edges[place] = e
	return w
}

// An edge that isn't there and one that begins elsewhere, at every place of walks of many lengths.
func TestPlaces(t *testing.T) {
	for _, n := range []int{1, 2, 3, 10, 127, 128, 1023} {
		g, w := path(n)
		wantCheck(t, g, w, 0, api.OK)
		g.edges[1024] = edge(-7, 0, 0)
		for place := range n {
			gone := g.edges[place+1]
			delete(g.edges, place+1)
			wantCheck(t, g, w, place, api.ErrNoEdge)
			g.edges[place+1] = edge(n+5, place+1, 0)
			wantCheck(t, g, w, place, api.ErrBroken)
			g.edges[place+1] = gone
			wantCheck(t, g, turned(w, place, 1024), place, api.ErrBroken)
			if place > 0 {
				wantCheck(t, g, turned(w, place, place), place, api.ErrBroken) // the same edge again
			}
		}
	}
}

// Of two faults of edges the first is told, whichever it is and whatever else is wrong.
func TestFirstFault(t *testing.T) {
	g, w := path(6)
	g.edges[11] = edge(99, 0, 0)
	for first := range 6 {
		for second := first + 1; second < 6; second++ {
			for _, w := range []api.Witness{w, {To: 3, Edges: w.Edges}, {To: 6, Bits: one, Edges: w.Edges}, {To: 3, Bits: one, Edges: w.Edges}} {
				wantCheck(t, g, turned(turned(w, first, 12), second, 11), first, api.ErrNoEdge)
				wantCheck(t, g, turned(turned(w, first, 11), second, 12), first, api.ErrBroken)
				wantCheck(t, g, turned(turned(w, first, 12), second, 12), first, api.ErrNoEdge)
				wantCheck(t, g, turned(turned(w, first, 11), second, 11), first, api.ErrBroken)
			}
		}
	}
}

// Another beginning is an edge's fault, at the first place; if there is no edge, an end's.
func TestBeginning(t *testing.T) {
	g, w := path(4)
	for from := 1; from <= 4; from++ {
		wantCheck(t, g, api.Witness{From: from, To: w.To, Edges: w.Edges}, 0, api.ErrBroken)
		wantCheck(t, g, api.Witness{From: from, To: 0}, 0, api.ErrEnd)
	}
}

// An end that isn't To, with the cost that is right and with others.
func TestEnd(t *testing.T) {
	for _, n := range []int{1, 2, 9, 300} {
		g, w := path(n)
		for to := range n {
			for _, bits := range []uint32{0, one, plusInf} {
				wantCheck(t, g, api.Witness{To: to, Bits: bits, Edges: w.Edges}, 0, api.ErrEnd)
			}
		}
		wantCheck(t, g, api.Witness{To: n, Bits: one, Edges: w.Edges}, 0, api.ErrCost)
	}
}

// As many edges as a witness may have, and one more.
func TestLongest(t *testing.T) {
	g, w := path(1024)
	wantCheck(t, g, w, 0, api.OK)
	wantCheck(t, g, turned(w, 1023, 1), 1023, api.ErrBroken)
	wantCheck(t, g, api.Witness{To: 1023, Edges: w.Edges}, 0, api.ErrEnd)
	wantCheck(t, g, api.Witness{To: 1024, Bits: 1, Edges: w.Edges}, 0, api.ErrCost)
	wantCheck(t, g, api.Witness{To: 1023, Edges: w.Edges[:1023]}, 0, api.OK)
	g.edges[1] = edge(0, 0, 0)
	wantCheck(t, g, api.Witness{Edges: slices.Repeat([]int{1}, 1024)}, 0, api.OK)
	b := slices.Concat([]byte{183, 0, 0, 0, 0, 0, 0, 129, 8}, bytes.Repeat([]byte{1}, 1025))
	g.asked = nil
	wantNone(t, g, b)
	g.wantAsked(t, nil)
	b[7] = 128
	wantNone(t, g, b)
	wantBytes(t, g, api.Witness{Edges: slices.Repeat([]int{1}, 1024)}, b[:len(b)-1], 0, api.OK)
}

// One edge many times, and walks that go through loops: each edge is asked for once at most, all the same.
func TestLoops(t *testing.T) {
	g := newBook(edge(5, 5, one), edge(5, 9, one), edge(9, 5, one), edge(9, 9, 0))
	for _, c := range []struct {
		to   int
		bits uint32
		es   []int
	}{
		{5, two, []int{1, 1}}, {5, 0x40800000, []int{1, 1, 1, 1}}, {5, 0x44800000, slices.Repeat([]int{1}, 1024)},
		{9, 0x40400000, []int{2, 3, 2}}, {9, 0x40a00000, []int{2, 4, 3, 2, 4, 4, 3, 2, 4}}, {5, 0x44800000, slices.Repeat([]int{2, 3}, 512)},
		{9, one, slices.Concat([]int{2}, slices.Repeat([]int{4}, 1023))}, {9, 0x40800000, []int{1, 2, 3, 2}},
	} {
		w := api.Witness{From: 5, To: c.to, Bits: c.bits, Edges: c.es}
		wantCheck(t, g, w, 0, api.OK)
		try(t, g, w)
		w.Bits++
		wantCheck(t, g, w, 0, api.ErrCost)
		w.To = 14 - w.To
		wantCheck(t, g, w, 0, api.ErrEnd)
		try(t, g, w)
	}
	wantCheck(t, g, api.Witness{From: 5, To: 9, Edges: []int{1, 1, 2, 2}}, 3, api.ErrBroken)
	wantCheck(t, g, api.Witness{From: 5, To: 9, Edges: []int{2, 3, 2, 7, 7}}, 3, api.ErrNoEdge)
	try(t, g, api.Witness{From: 5, To: 9, Edges: []int{2, 3, 2, 7, 7}})
}

// Any answer of Edge that isn't OK says that there is no such edge, also beside a record that would do.
func TestEdgeRefused(t *testing.T) {
	g, w := path(3)
	for _, errno := range []api.Errno{1, 2, api.ErrNoVertex, api.ErrBroken, api.ErrWitness, api.ErrEnd, api.ErrCost, api.ErrClaim, api.ErrDead, -1, math.MaxInt, math.MinInt} {
		for place := range 3 {
			clear(g.refused)
			g.refused[place+1] = errno
			wantCheck(t, g, w, place, api.ErrNoEdge)
			try(t, g, w)
		}
	}
}

// What Edge answers of E isn't looked at.
func TestNumberOfRecord(t *testing.T) {
	for _, e := range []int{0, 1, 2, 77, -1, math.MinInt, math.MaxInt} {
		g, w := path(3)
		for i := 1; i <= 3; i++ {
			x := g.edges[i]
			x.E = e
			g.edges[i] = x
		}
		wantCheck(t, g, w, 0, api.OK)
		wantCheck(t, g, turned(w, 1, 3), 1, api.ErrBroken)
	}
}

// Records that lead by what no vertex can be.
func TestOddVertices(t *testing.T) {
	for _, v := range []int{-1, -7, api.MaxId + 1, 1 << 32, math.MinInt, math.MaxInt} {
		g := newBook(edge(5, v, one), edge(v, 9, one), edge(v, 5+1<<32, 0))
		wantCheck(t, g, api.Witness{From: 5, To: 9, Bits: two, Edges: []int{1, 2}}, 0, api.OK)
		wantCheck(t, g, api.Witness{From: 5, To: 9, Bits: two, Edges: []int{1, 1}}, 1, api.ErrBroken)
		wantCheck(t, g, api.Witness{From: 5, To: 5, Bits: one, Edges: []int{1, 3}}, 0, api.ErrEnd)
		wantCheck(t, g, api.Witness{From: 5, To: 5, Bits: one, Edges: []int{1}}, 0, api.ErrEnd)
	}
}

// Several faults at once: the chapter's order.
func TestOrder(t *testing.T) {
	g := newBook(edge(5, 9, one), edge(9, 5, one))
	for _, c := range []struct {
		w     api.Witness
		place int
		errno api.Errno
	}{
		{api.Witness{From: 5, To: 7, Bits: 7, Edges: []int{1, 1, 8}}, 0, api.ErrNoVertex},
		{api.Witness{From: 7, To: 5, Bits: 7, Edges: []int{8, 1, 1}}, 0, api.ErrNoVertex},
		{api.Witness{From: 5, To: 5, Bits: 7, Edges: []int{1, 8, 1}}, 1, api.ErrNoEdge},
		{api.Witness{From: 5, To: 9, Bits: 7, Edges: []int{1, 1, 8}}, 1, api.ErrBroken},
		{api.Witness{From: 9, To: 9, Bits: 7, Edges: []int{2, 1, 8}}, 2, api.ErrNoEdge},
		{api.Witness{From: 5, To: 9, Bits: 7, Edges: []int{1, 2}}, 0, api.ErrEnd},
		{api.Witness{From: 5, To: 5, Bits: 7, Edges: []int{1, 2}}, 0, api.ErrCost},
		{api.Witness{From: 5, To: 5, Bits: two, Edges: []int{1, 2}}, 0, api.OK},
	} {
		wantCheck(t, g, c.w, c.place, c.errno)
		wantClaim(t, g, c.w.From, c.w.To, c.w.Bits+1, c.w)
		wantNone(t, g, append(bytesOf(t, c.w), 0))
	}
}
