package store_test

import (
	"math"
	"slices"
	"testing"

	"bramble/api"
	"bramble/store"
)

func wantCode(t *testing.T, what string, got, want api.Errno) {
	t.Helper()
	if got != want {
		t.Fatalf("%s: error %d, not %d", what, got, want)
	}
}

func wantNumber(t *testing.T, what string, got, want int) {
	t.Helper()
	if got != want {
		t.Fatalf("%s: %d, not %d", what, got, want)
	}
}

func wantList(t *testing.T, what string, got []int, want ...int) {
	t.Helper()
	if !slices.Equal(got, want) {
		t.Fatalf("%s: %v, not %v", what, got, want)
	}
}

func wantGauge(t *testing.T, s *store.Store, reads, writes int) {
	t.Helper()
	wantNumber(t, "Reads", s.Reads(), reads)
	wantNumber(t, "Writes", s.Writes(), writes)
}

func wantAdd(t *testing.T, s *store.Store, u, v int, bits uint32, e int, code api.Errno) {
	t.Helper()
	if got, errno := s.AddEdge(u, v, bits); got != e || errno != code {
		t.Fatalf("AddEdge(%d, %d, %08x): %d, %d, not %d, %d", u, v, bits, got, errno, e, code)
	}
}

func wantEdge(t *testing.T, s *store.Store, e int, x api.Edge, code api.Errno) {
	t.Helper()
	if got, errno := s.Edge(e); got != x || errno != code {
		t.Fatalf("Edge(%d): %v, %d, not %v, %d", e, got, errno, x, code)
	}
}

func wantDrop(t *testing.T, s *store.Store, e int, x api.Edge, code api.Errno) {
	t.Helper()
	if got, errno := s.DropEdge(e); got != x || errno != code {
		t.Fatalf("DropEdge(%d): %v, %d, not %v, %d", e, got, errno, x, code)
	}
}

func wantReweigh(t *testing.T, s *store.Store, e int, bits, was uint32, code api.Errno) {
	t.Helper()
	if got, errno := s.Reweigh(e, bits); got != was || errno != code {
		t.Fatalf("Reweigh(%d, %08x): %08x, %d, not %08x, %d", e, bits, got, errno, was, code)
	}
}

func wantGone(t *testing.T, s *store.Store, v int, code api.Errno, want ...api.Edge) {
	t.Helper()
	if got, errno := s.DropVertex(v); !slices.Equal(got, want) || errno != code {
		t.Fatalf("DropVertex(%d): %v, %d, not %v, %d", v, got, errno, want, code)
	}
}

// with: a store of these vertices.
func with(t *testing.T, vertices ...int) *store.Store {
	t.Helper()
	s := store.New()
	for _, v := range vertices {
		wantCode(t, "AddVertex", s.AddVertex(v), api.OK)
	}
	return s
}

func TestExamples(t *testing.T) {
	s := with(t, 5, 9)
	wantCode(t, "AddVertex(5)", s.AddVertex(5), api.ErrTwice)
	wantCode(t, "AddVertex(-1)", s.AddVertex(-1), api.ErrVertex)
	wantAdd(t, s, 5, 9, 0x3F800000, 1, api.OK)
	wantAdd(t, s, 9, 9, 0x80000000, 2, api.OK)
	wantAdd(t, s, 5, 7, 0, 0, api.ErrNoVertex)
	wantAdd(t, s, 5, 9, 0x7F800000, 0, api.ErrBadWeight)
	wantEdge(t, s, 2, api.Edge{E: 2, U: 9, V: 9, Bits: 0}, api.OK)
	wantList(t, "Out(9)", s.Out(9), 2)
	wantList(t, "In(9)", s.In(9), 1, 2)
	wantDrop(t, s, 1, api.Edge{E: 1, U: 5, V: 9, Bits: 0x3F800000}, api.OK)
	wantNumber(t, "Free", s.Free(), 1)
	wantCode(t, "PutEdge(4)", s.PutEdge(api.Edge{E: 4, U: 9, V: 5, Bits: 1}), api.OK)
	wantCode(t, "PutEdge(4) again", s.PutEdge(api.Edge{E: 4, U: 9, V: 5, Bits: 1}), api.ErrTwice)
	wantCode(t, "PutEdge(0)", s.PutEdge(api.Edge{E: 0, U: 9, V: 5, Bits: 1}), api.ErrRange)
	wantList(t, "Edges", s.Edges(), 2, 4)
	wantGone(t, s, 9, api.OK, api.Edge{E: 2, U: 9, V: 9}, api.Edge{E: 4, U: 9, V: 5, Bits: 1})
	wantGauge(t, s, 1, 6)
}

func TestNew(t *testing.T) {
	s := store.New()
	for _, v := range []int{math.MinInt, -1, 0, 1, 1<<31 - 1, 1 << 31, math.MaxInt} {
		if s.Has(v) {
			t.Fatalf("Has(%d) of an empty graph", v)
		}
		wantList(t, "Out", s.Out(v))
		wantList(t, "In", s.In(v))
		wantGone(t, s, v, api.ErrNoVertex)
		wantEdge(t, s, v, api.Edge{}, api.ErrNoEdge)
		wantDrop(t, s, v, api.Edge{}, api.ErrNoEdge)
		wantReweigh(t, s, v, 0, 0, api.ErrNoEdge)
		wantAdd(t, s, v, v, 0, 0, api.ErrNoVertex)
	}
	wantList(t, "Vertices", s.Vertices())
	wantList(t, "Edges", s.Edges())
	wantNumber(t, "Free", s.Free(), 1)
	wantGauge(t, s, 0, 0)
}

func TestNumbersOfVertices(t *testing.T) {
	s := store.New()
	for _, v := range []int{math.MinInt, -1 << 31, -2, -1, 1 << 31, 1<<31 + 1, 1 << 32, math.MaxInt} {
		wantCode(t, "AddVertex of no vertex's number", s.AddVertex(v), api.ErrVertex)
		if s.Has(v) {
			t.Fatalf("Has(%d)", v)
		}
	}
	for _, v := range []int{1<<31 - 1, 0, 1<<31 - 2, 1, 1 << 30} {
		wantCode(t, "AddVertex", s.AddVertex(v), api.OK)
		wantCode(t, "AddVertex again", s.AddVertex(v), api.ErrTwice)
		if !s.Has(v) {
			t.Fatalf("not Has(%d)", v)
		}
	}
	wantList(t, "Vertices", s.Vertices(), 0, 1, 1<<30, 1<<31-2, 1<<31-1)
	wantAdd(t, s, 1<<31-1, 0, 1, 1, api.OK)
	wantList(t, "Out of the greatest", s.Out(1<<31-1), 1)
	wantList(t, "In of the least", s.In(0), 1)
	wantGone(t, s, 1<<31-1, api.OK, api.Edge{E: 1, U: 1<<31 - 1, V: 0, Bits: 1})
	wantGone(t, s, 0, api.OK)
	wantList(t, "Vertices", s.Vertices(), 1, 1<<30, 1<<31-2)
}

// A vertex that goes and comes again has none of its former edges.
func TestVertexComesAgain(t *testing.T) {
	s := with(t, 1, 2)
	wantAdd(t, s, 1, 2, 0, 1, api.OK)
	wantAdd(t, s, 2, 1, 0, 2, api.OK)
	wantAdd(t, s, 1, 1, 0, 3, api.OK)
	wantAdd(t, s, 2, 2, 7, 4, api.OK)
	wantGone(t, s, 1, api.OK, api.Edge{E: 1, U: 1, V: 2}, api.Edge{E: 2, U: 2, V: 1}, api.Edge{E: 3, U: 1, V: 1})
	wantGone(t, s, 1, api.ErrNoVertex)
	if s.Has(1) || !s.Has(2) {
		t.Fatal("Has behind DropVertex")
	}
	wantList(t, "Vertices", s.Vertices(), 2)
	wantAdd(t, s, 1, 2, 0, 0, api.ErrNoVertex)
	wantAdd(t, s, 2, 1, 0, 0, api.ErrNoVertex)
	wantAdd(t, s, 1, 1, 0, 0, api.ErrNoVertex)
	wantCode(t, "PutEdge", s.PutEdge(api.Edge{E: 9, U: 2, V: 1}), api.ErrNoVertex)
	wantList(t, "Out of what is no vertex", s.Out(1))
	wantList(t, "In of what is no vertex", s.In(1))
	wantCode(t, "AddVertex again", s.AddVertex(1), api.OK)
	wantList(t, "Out", s.Out(1))
	wantList(t, "In", s.In(1))
	wantList(t, "Out(2)", s.Out(2), 4)
	wantList(t, "In(2)", s.In(2), 4)
	wantAdd(t, s, 1, 2, 5, 1, api.OK)
	wantList(t, "Out", s.Out(1), 1)
	wantList(t, "In(2)", s.In(2), 1, 4)
	wantGauge(t, s, 0, 8)
}

// Edges of a vertex's own, several of one pair, and others that stay.
func TestDropVertexWithEdgesOfAllKinds(t *testing.T) {
	s := with(t, 10, 20, 30)
	edges := []api.Edge{
		{E: 900, U: 20, V: 10, Bits: 1}, {E: 7, U: 20, V: 20, Bits: 2}, {E: 50, U: 10, V: 20, Bits: 3},
		{E: 3, U: 10, V: 30, Bits: 4}, {E: 1024, U: 30, V: 20, Bits: 5}, {E: 49, U: 20, V: 20, Bits: 6},
		{E: 1, U: 20, V: 10, Bits: 7}, {E: 51, U: 10, V: 20, Bits: 8}, {E: 100, U: 30, V: 30, Bits: 9},
	}
	for _, x := range edges {
		wantCode(t, "PutEdge", s.PutEdge(x), api.OK)
	}
	wantList(t, "Out(20)", s.Out(20), 1, 7, 49, 900)
	wantList(t, "In(20)", s.In(20), 7, 49, 50, 51, 1024)
	wantGone(t, s, 20, api.OK, edges[6], edges[1], edges[5], edges[2], edges[7], edges[0], edges[4])
	wantList(t, "Edges", s.Edges(), 3, 100)
	wantList(t, "Out(10)", s.Out(10), 3)
	wantList(t, "In(10)", s.In(10))
	wantList(t, "Out(30)", s.Out(30), 100)
	wantList(t, "In(30)", s.In(30), 3, 100)
	wantNumber(t, "Free", s.Free(), 1)
	wantGauge(t, s, 0, 16)
	for _, x := range edges {
		want, code := x, api.OK
		if x.U == 20 || x.V == 20 {
			want, code = api.Edge{}, api.ErrNoEdge
		}
		wantEdge(t, s, x.E, want, code)
	}
	wantGauge(t, s, 2, 16)
	wantGone(t, s, 10, api.OK, edges[3])
	wantGone(t, s, 30, api.OK, edges[8])
	wantGauge(t, s, 2, 18)
	wantList(t, "Vertices", s.Vertices())
}

func TestLeastFreeNumber(t *testing.T) {
	s := with(t, 1, 2)
	wantCode(t, "PutEdge(2)", s.PutEdge(api.Edge{E: 2, U: 1, V: 2}), api.OK)
	wantCode(t, "PutEdge(1024)", s.PutEdge(api.Edge{E: 1024, U: 2, V: 2}), api.OK)
	wantNumber(t, "Free", s.Free(), 1)
	wantAdd(t, s, 1, 1, 0, 1, api.OK)
	wantNumber(t, "Free", s.Free(), 3)
	wantAdd(t, s, 2, 1, 0, 3, api.OK)
	wantCode(t, "PutEdge(4)", s.PutEdge(api.Edge{E: 4, U: 1, V: 2}), api.OK)
	wantNumber(t, "Free", s.Free(), 5)
	s.DropEdge(3)
	s.DropEdge(2)
	wantNumber(t, "Free", s.Free(), 2)
	wantCode(t, "PutEdge(2)", s.PutEdge(api.Edge{E: 2, U: 1, V: 1}), api.OK)
	wantNumber(t, "Free", s.Free(), 3)
	s.DropVertex(1)
	wantList(t, "Edges", s.Edges(), 1024)
	wantNumber(t, "Free", s.Free(), 1)
	for e := 1; e < 1024; e++ {
		wantNumber(t, "Free", s.Free(), e)
		wantAdd(t, s, 2, 2, 0, e, api.OK)
	}
	wantNumber(t, "Free", s.Free(), 0)
}

func TestNumbersOfEdges(t *testing.T) {
	s := with(t, 1)
	for _, e := range []int{math.MinInt, -1024, -1, 0, 1025, 65537, 1<<32 + 1, math.MaxInt} {
		wantCode(t, "PutEdge of no edge's number", s.PutEdge(api.Edge{E: e, U: 1, V: 1}), api.ErrRange)
		wantEdge(t, s, e, api.Edge{}, api.ErrNoEdge)
		wantDrop(t, s, e, api.Edge{}, api.ErrNoEdge)
		wantReweigh(t, s, e, 0, 0, api.ErrNoEdge)
	}
	wantGauge(t, s, 0, 0)
	for _, e := range []int{1024, 1, 1023, 2} {
		x := api.Edge{E: e, U: 1, V: 1, Bits: uint32(e)}
		wantCode(t, "PutEdge", s.PutEdge(x), api.OK)
		wantEdge(t, s, e, x, api.OK)
	}
	wantList(t, "Edges", s.Edges(), 1, 2, 1023, 1024)
	wantList(t, "Out", s.Out(1), 1, 2, 1023, 1024)
	wantList(t, "In", s.In(1), 1, 2, 1023, 1024)
	wantNumber(t, "Free", s.Free(), 3)
	wantDrop(t, s, 1024, api.Edge{E: 1024, U: 1, V: 1, Bits: 1024}, api.OK)
	wantDrop(t, s, 1024, api.Edge{}, api.ErrNoEdge)
	wantGauge(t, s, 4, 5)
}

func TestWeights(t *testing.T) {
	good := map[uint32]uint32{0: 0, 1: 1, 0x007fffff: 0x007fffff, 0x00800000: 0x00800000, 0x3f800000: 0x3f800000, 0x7f7fffff: 0x7f7fffff, 0x80000000: 0}
	for bits, kept := range good {
		s := with(t, 1, 2)
		wantAdd(t, s, 1, 2, bits, 1, api.OK)
		wantEdge(t, s, 1, api.Edge{E: 1, U: 1, V: 2, Bits: kept}, api.OK)
		wantCode(t, "PutEdge", s.PutEdge(api.Edge{E: 2, U: 2, V: 1, Bits: bits}), api.OK)
		wantEdge(t, s, 2, api.Edge{E: 2, U: 2, V: 1, Bits: kept}, api.OK)
		wantAdd(t, s, 1, 1, 0x40000000, 3, api.OK)
		wantReweigh(t, s, 3, bits, 0x40000000, api.OK)
		wantEdge(t, s, 3, api.Edge{E: 3, U: 1, V: 1, Bits: kept}, api.OK)
		wantReweigh(t, s, 3, bits, kept, api.OK)
		wantReweigh(t, s, 3, 5, kept, api.OK)
		wantDrop(t, s, 1, api.Edge{E: 1, U: 1, V: 2, Bits: kept}, api.OK)
		wantGone(t, s, 2, api.OK, api.Edge{E: 2, U: 2, V: 1, Bits: kept})
		wantGauge(t, s, 3, 8)
	}
}

func TestNoWeights(t *testing.T) {
	s := with(t, 1, 2)
	wantAdd(t, s, 1, 2, 9, 1, api.OK)
	for _, bits := range []uint32{0x7f800000, 0x7f800001, 0x7fc00000, 0x7fffffff, 0x80000001, 0xbf800000, 0xff7fffff, 0xff800000, 0xffc00000, 0xffffffff} {
		wantAdd(t, s, 1, 2, bits, 0, api.ErrBadWeight)
		wantCode(t, "PutEdge", s.PutEdge(api.Edge{E: 5, U: 1, V: 2, Bits: bits}), api.ErrBadWeight)
		wantReweigh(t, s, 1, bits, 0, api.ErrBadWeight)
		wantList(t, "Edges", s.Edges(), 1)
		wantGauge(t, s, 0, 1)
	}
	wantEdge(t, s, 1, api.Edge{E: 1, U: 1, V: 2, Bits: 9}, api.OK)
}

// What is reweighed keeps its number and its ends, and stays where it was.
func TestReweigh(t *testing.T) {
	s := with(t, 1, 2)
	wantAdd(t, s, 1, 2, 10, 1, api.OK)
	wantAdd(t, s, 1, 2, 20, 2, api.OK)
	wantAdd(t, s, 2, 2, 30, 3, api.OK)
	wantReweigh(t, s, 2, 21, 20, api.OK)
	wantReweigh(t, s, 2, 21, 21, api.OK)
	wantReweigh(t, s, 2, 0, 21, api.OK)
	wantReweigh(t, s, 2, 22, 0, api.OK)
	wantReweigh(t, s, 4, 1, 0, api.ErrNoEdge)
	wantGauge(t, s, 0, 7)
	wantEdge(t, s, 1, api.Edge{E: 1, U: 1, V: 2, Bits: 10}, api.OK)
	wantEdge(t, s, 2, api.Edge{E: 2, U: 1, V: 2, Bits: 22}, api.OK)
	wantEdge(t, s, 3, api.Edge{E: 3, U: 2, V: 2, Bits: 30}, api.OK)
	wantList(t, "Out(1)", s.Out(1), 1, 2)
	wantList(t, "In(2)", s.In(2), 1, 2, 3)
	wantNumber(t, "Free", s.Free(), 4)
}

// Several edges of one pair and loops: each goes alone.
func TestAlikeEdges(t *testing.T) {
	s := with(t, 4, 6)
	for e := 1; e <= 9; e += 3 {
		wantAdd(t, s, 4, 6, 8, e, api.OK)
		wantAdd(t, s, 6, 4, 8, e+1, api.OK)
		wantAdd(t, s, 4, 4, 8, e+2, api.OK)
	}
	wantList(t, "Out(4)", s.Out(4), 1, 3, 4, 6, 7, 9)
	wantList(t, "In(4)", s.In(4), 2, 3, 5, 6, 8, 9)
	wantDrop(t, s, 4, api.Edge{E: 4, U: 4, V: 6, Bits: 8}, api.OK)
	wantDrop(t, s, 6, api.Edge{E: 6, U: 4, V: 4, Bits: 8}, api.OK)
	wantDrop(t, s, 2, api.Edge{E: 2, U: 6, V: 4, Bits: 8}, api.OK)
	wantList(t, "Out(4)", s.Out(4), 1, 3, 7, 9)
	wantList(t, "In(4)", s.In(4), 3, 5, 8, 9)
	wantList(t, "Out(6)", s.Out(6), 5, 8)
	wantList(t, "In(6)", s.In(6), 1, 7)
	wantAdd(t, s, 6, 6, 8, 2, api.OK)
	wantList(t, "Out(6)", s.Out(6), 2, 5, 8)
	wantList(t, "In(6)", s.In(6), 1, 2, 7)
}

// The gauge behind each call: just Edge reads, and just what makes, changes or drops a record writes.
func TestGauge(t *testing.T) {
	s := store.New()
	steps := []struct {
		name          string
		do            func()
		reads, writes int
	}{
		{"AddVertex", func() { s.AddVertex(1) }, 0, 0},
		{"AddVertex of another", func() { s.AddVertex(2) }, 0, 0},
		{"AddVertex, refused", func() { s.AddVertex(1); s.AddVertex(-1) }, 0, 0},
		{"AddEdge", func() { s.AddEdge(1, 2, 0) }, 0, 1},
		{"AddEdge, refused", func() { s.AddEdge(1, 3, 0); s.AddEdge(1, 2, 0xffffffff) }, 0, 1},
		{"PutEdge", func() { s.PutEdge(api.Edge{E: 7, U: 2, V: 2}) }, 0, 2},
		{"PutEdge, refused", func() { s.PutEdge(api.Edge{E: 7, U: 2, V: 2}); s.PutEdge(api.Edge{E: 1025, U: 2, V: 2}) }, 0, 2},
		{"Edge", func() { s.Edge(1) }, 1, 2},
		{"Edge again", func() { s.Edge(1); s.Edge(7) }, 3, 2},
		{"Edge, refused", func() { s.Edge(0); s.Edge(2); s.Edge(1024) }, 3, 2},
		{"Reweigh", func() { s.Reweigh(1, 4) }, 3, 3},
		{"Reweigh to the same", func() { s.Reweigh(1, 4) }, 3, 4},
		{"Reweigh from +0 to -0", func() { s.Reweigh(7, 0x80000000) }, 3, 5},
		{"Reweigh, refused", func() { s.Reweigh(2, 4); s.Reweigh(1, 0x7fc00000) }, 3, 5},
		{"Has", func() { s.Has(1); s.Has(5) }, 3, 5},
		{"lists", func() { s.Vertices(); s.Edges(); s.Out(2); s.In(2); s.Out(5) }, 3, 5},
		{"Free", func() { s.Free() }, 3, 5},
		{"the gauge", func() { s.Reads(); s.Writes() }, 3, 5},
		{"DropEdge", func() { s.DropEdge(1) }, 3, 6},
		{"DropEdge, refused", func() { s.DropEdge(1); s.DropEdge(0) }, 3, 6},
		{"DropVertex without edges", func() { s.DropVertex(1) }, 3, 6},
		{"DropVertex, refused", func() { s.DropVertex(1) }, 3, 6},
		{"AddEdge to itself", func() { s.AddEdge(2, 2, 0) }, 3, 7},
		{"DropVertex with two edges", func() { s.DropVertex(2) }, 3, 9},
		{"DropVertex, refused", func() { s.DropVertex(2) }, 3, 9},
	}
	for _, step := range steps {
		step.do()
		if s.Reads() != step.reads || s.Writes() != step.writes {
			t.Fatalf("%s: Reads, Writes: %d, %d, not %d, %d", step.name, s.Reads(), s.Writes(), step.reads, step.writes)
		}
	}
}
