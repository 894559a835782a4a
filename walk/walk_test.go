package walk_test

import (
	"math"
	"slices"
	"testing"

	"bramble/api"
	"bramble/store"
	"bramble/walk"
)

// chapter: the edges of the chapter's examples.
func chapter() *book {
	return newBook(edge(5, 9, 1), edge(9, 9, 2), edge(9, 5, 4), edge(5, 7, 8))
}

func wantFollow(t *testing.T, g walk.Records, from int, es []int, end int, bits uint32, place int, errno api.Errno) {
	t.Helper()
	if to, got, at, e := walk.Follow(g, from, es); to != end || got != bits || at != place || e != errno {
		t.Errorf("P8.1: Follow(%d, %v): %d, %08x, %d, %d, not %d, %08x, %d, %d", from, es, to, got, at, e, end, bits, place, errno)
	}
}

func wantThrough(t *testing.T, g walk.Records, from int, es []int, want ...int) {
	t.Helper()
	if got, at, e := walk.Through(g, from, es); !slices.Equal(got, want) || at != 0 || e != api.OK {
		t.Errorf("P8.1: Through(%d, %v): %v, %d, %d, not %v", from, es, got, at, e, want)
	}
}

func wantSimple(t *testing.T, g walk.Records, from int, es []int, want ...int) {
	t.Helper()
	if got, at, e := walk.Simple(g, from, es); !slices.Equal(got, want) || at != 0 || e != api.OK {
		t.Errorf("P8.1: Simple(%d, %v): %v, %d, %d, not %v", from, es, got, at, e, want)
	}
}

// wantFault: all three tell it, and nothing beside it.
func wantFault(t *testing.T, g walk.Records, from int, es []int, place int, errno api.Errno) {
	t.Helper()
	wantFollow(t, g, from, es, 0, 0, place, errno)
	if got, at, e := walk.Through(g, from, es); len(got) != 0 || at != place || e != errno {
		t.Errorf("P8.1: Through(%d, %v): %v, %d, %d, not %d, %d", from, es, got, at, e, place, errno)
	}
	if got, at, e := walk.Simple(g, from, es); len(got) != 0 || at != place || e != errno {
		t.Errorf("P8.1: Simple(%d, %v): %v, %d, %d, not %d, %d", from, es, got, at, e, place, errno)
	}
}

func TestExamples(t *testing.T) {
	g := chapter()
	wantFollow(t, g, 5, []int{1, 2, 3}, 5, 0x40e00000, 0, api.OK)
	wantFollow(t, g, 5, nil, 5, 0, 0, api.OK)
	wantFollow(t, g, 5, []int{1, 4}, 0, 0, 1, api.ErrBroken)
	wantFollow(t, g, 5, []int{1, 8, 4}, 0, 0, 1, api.ErrNoEdge)
	wantThrough(t, g, 5, []int{1, 2, 3, 4}, 5, 9, 9, 5, 7)
	wantSimple(t, g, 5, []int{1, 2, 3, 4}, 4)
	wantSimple(t, g, 5, []int{4}, 4)
	wantSimple(t, g, 5, []int{1, 2}, 1)
}

func TestNumbersOfErrors(t *testing.T) {
	if api.ErrNoEdge != 6 || api.ErrBroken != 80 {
		t.Errorf("ErrNoEdge %d, ErrBroken %d", api.ErrNoEdge, api.ErrBroken)
	}
}

// numbers: of vertices and edges, below 0, small and great.
func numbers() []int {
	return []int{math.MinInt, math.MinInt + 1, -1 << 32, -1 << 31, -2, -1, 0, 1, 5, 1023, 1024, 1025, 1<<31 - 1, 1 << 31, 1 << 32, 1 << 53, math.MaxInt - 1, math.MaxInt}
}

// The empty walk leads from each number to itself, be it a vertex or none, and nothing is asked.
func TestEmptyList(t *testing.T) {
	g := chapter()
	for _, from := range append(numbers(), 7, 9) {
		for _, none := range [][]int{nil, {}, make([]int, 0, 9)} {
			wantFollow(t, g, from, none, from, 0, 0, api.OK)
			wantThrough(t, g, from, none, from)
			wantSimple(t, g, from, none)
		}
	}
	if len(g.asked) != 0 {
		t.Errorf("P8.1: of empty lists was asked: %v", g.asked)
	}
}

func TestOneEdge(t *testing.T) {
	g := chapter()
	wantFollow(t, g, 5, []int{1}, 9, 0x3f800000, 0, api.OK)
	wantThrough(t, g, 5, []int{1}, 5, 9)
	wantSimple(t, g, 5, []int{1}, 1)
	wantFollow(t, g, 9, []int{2}, 9, 0x40000000, 0, api.OK)
	wantThrough(t, g, 9, []int{2}, 9, 9)
	wantSimple(t, g, 9, []int{2})
	wantFault(t, g, 9, []int{1}, 0, api.ErrBroken)
	wantFault(t, g, 6, []int{1}, 0, api.ErrBroken)
	wantFault(t, g, 5, []int{5}, 0, api.ErrNoEdge)
	wantFault(t, g, 5, []int{0}, 0, api.ErrNoEdge)
}

// Edges 1 to 4 lead from 0 to 4 by 1, 2 and 3; edge 10+v from v to itself.
func ladder() *book {
	b := newBook(edge(0, 1, 1), edge(1, 2, 1), edge(2, 3, 1), edge(3, 4, 1))
	for v := range 5 {
		b.edges[10+v] = edge(v, v, 0.5)
	}
	return b
}

func TestEdgeToItself(t *testing.T) {
	g := ladder()
	for _, c := range []struct{ es, stops []int }{
		{[]int{10, 1, 2, 3, 4}, []int{0, 0, 1, 2, 3, 4}},
		{[]int{1, 2, 12, 3, 4}, []int{0, 1, 2, 2, 3, 4}},
		{[]int{1, 2, 3, 4, 14}, []int{0, 1, 2, 3, 4, 4}},
		{[]int{10, 10, 1, 11, 2, 12, 12, 12, 3, 13, 4, 14, 14}, []int{0, 0, 0, 1, 1, 2, 2, 2, 2, 3, 3, 4, 4, 4}},
	} {
		wantThrough(t, g, 0, c.es, c.stops...)
		wantSimple(t, g, 0, c.es, 1, 2, 3, 4)
		try(t, g, 0, c.es)
	}
	wantFollow(t, g, 0, []int{10, 1, 2, 12, 3, 4, 14}, 4, 0x40b00000, 0, api.OK)
	wantSimple(t, g, 2, []int{12, 12, 12})
	wantFault(t, g, 0, []int{11, 1}, 0, api.ErrBroken)
	wantFault(t, g, 0, []int{1, 10}, 1, api.ErrBroken)
	wantFault(t, g, 0, []int{1, 12, 2}, 1, api.ErrBroken)
}

// An edge that stands in the list several times: it counts and is asked each time.
func TestSameEdgeSeveralTimes(t *testing.T) {
	g := newBook(edge(1, 2, 1), edge(2, 1, 2), edge(2, 3, 4))
	for _, es := range [][]int{{1, 2, 1}, {1, 2, 1, 2}, {1, 2, 1, 2, 1, 3}, {1, 1}, {1, 2, 2}} {
		try(t, g, 1, es)
	}
	wantFollow(t, g, 1, []int{1, 2, 1, 2, 1, 3}, 3, 0x41300000, 0, api.OK)
	wantThrough(t, g, 1, []int{1, 2, 1, 2, 1, 3}, 1, 2, 1, 2, 1, 2, 3)
	wantSimple(t, g, 1, []int{1, 2, 1, 2, 1, 3}, 1, 3)
	wantFault(t, g, 1, []int{1, 1}, 1, api.ErrBroken)
}

// Of several edges between the same vertices Simple keeps the one by which the walk goes on for the last time.
func TestSimpleOfEdgesSideBySide(t *testing.T) {
	g := newBook(edge(1, 2, 1), edge(1, 2, 9), edge(2, 1, 1), edge(2, 3, 1), edge(2, 3, 9))
	wantSimple(t, g, 1, []int{1, 3, 2}, 2)
	wantSimple(t, g, 1, []int{2, 3, 1}, 1)
	wantSimple(t, g, 1, []int{2, 3, 1, 3, 2, 5}, 2, 5)
}

// One fault, of either kind, at each place of lists of each length; and two, of which the first one is told.
func TestPlacesOfFaults(t *testing.T) {
	const steps = 7
	g := newBook()
	var whole []int
	for i := range steps {
		g.edges[i+1] = edge(i, i+1, 1)
		whole = append(whole, i+1)
	}
	g.edges[50] = edge(77, 78, 1)
	faults := []struct {
		e     int
		errno api.Errno
	}{{99, api.ErrNoEdge}, {50, api.ErrBroken}}
	for n := 1; n <= steps; n++ {
		for first := range n {
			for _, f := range faults {
				es := slices.Clone(whole[:n])
				es[first] = f.e
				wantFault(t, g, 0, es, first, f.errno)
				try(t, g, 0, es)
				for later := first + 1; later < n; later++ {
					for _, other := range faults {
						two := slices.Clone(es)
						two[later] = other.e
						wantFault(t, g, 0, two, first, f.errno)
						try(t, g, 0, two)
					}
				}
			}
		}
		wantFollow(t, g, 0, whole[:n], n, math.Float32bits(float32(n)), 0, api.OK)
	}
}

// A fault behind loops that were left out has its place in the list that was handed in.
func TestFaultBehindLoops(t *testing.T) {
	g := chapter()
	wantFault(t, g, 5, []int{1, 2, 2, 3, 3}, 4, api.ErrBroken)
	wantFault(t, g, 5, []int{1, 3, 1, 3, 6, 4}, 4, api.ErrNoEdge)
	wantFault(t, g, 9, []int{2, 2, 2, 1}, 3, api.ErrBroken)
	// 3 led from 9, which was left out: 5 is where the walk is.
	wantFault(t, g, 5, []int{1, 3, 3}, 2, api.ErrBroken)
}

// Whatever error Edge answers, and whatever record beside it, the edge isn't there; that comes ahead of where it begins.
func TestAnyErrorOfEdge(t *testing.T) {
	for _, errno := range []api.Errno{1, 2, api.ErrNoVertex, api.ErrNoEdge, api.ErrBroken, api.ErrNoPath, 261, 1 << 40, -1, math.MinInt, math.MaxInt} {
		g := chapter()
		g.refused[2], g.refused[4] = errno, errno
		g.edges[2] = edge(9, 9, 2)
		wantFault(t, g, 5, []int{1, 2, 3}, 1, api.ErrNoEdge)
		wantFault(t, g, 9, []int{4}, 0, api.ErrNoEdge)
		wantFault(t, g, 5, []int{1, 3, 4, 77}, 2, api.ErrNoEdge)
		g.edges[2] = api.Edge{E: 2, U: 1, V: 1}
		wantFault(t, g, 5, []int{1, 2}, 1, api.ErrNoEdge)
		try(t, g, 5, []int{1, 2, 4})
		wantFollow(t, g, 5, []int{1, 3}, 5, 0x40a00000, 0, api.OK)
	}
}

// Vertices and edges may be any numbers.
func TestAnyNumbers(t *testing.T) {
	all := numbers()
	g := newBook()
	var round []int
	for i, v := range all {
		e := all[(i+7)%len(all)]
		g.edges[e] = edge(v, all[(i+1)%len(all)], 1)
		round = append(round, e)
	}
	for at, from := range all {
		es := slices.Concat(round[at:], round[:at])
		wantThrough(t, g, from, es, append(slices.Concat(all[at:], all[:at]), from)...)
		wantSimple(t, g, from, es)
		wantSimple(t, g, from, es[:len(es)-1], es[:len(es)-1]...)
		wantFollow(t, g, from, es, from, math.Float32bits(float32(len(all))), 0, api.OK)
		try(t, g, from, slices.Concat(es, es, es[:3]))
		for _, other := range all {
			if other != from {
				wantFault(t, g, other, es, 0, api.ErrBroken)
			}
		}
		delete(g.edges, es[3])
		wantFault(t, g, from, es, 3, api.ErrNoEdge)
		g.edges[es[3]] = edge(all[(at+3)%len(all)], all[(at+4)%len(all)], 1)
	}
}

// lying: records whose E is another number than was asked.
type lying struct {
	book *book
	e    int
}

func (l lying) Edge(e int) (api.Edge, api.Errno) {
	x, errno := l.book.Edge(e)
	x.E = l.e
	return x, errno
}

func TestEIsNotLookedAt(t *testing.T) {
	for _, e := range []int{0, 1, 2, 4, -1, 99, math.MaxInt} {
		g := lying{chapter(), e}
		wantFollow(t, g, 5, []int{1, 2, 3}, 5, 0x40e00000, 0, api.OK)
		wantThrough(t, g, 5, []int{1, 2, 3, 4}, 5, 9, 9, 5, 7)
		wantSimple(t, g, 5, []int{1, 2, 3, 4}, 4)
		wantSimple(t, g, 5, []int{1, 2}, 1)
		wantFault(t, g, 5, []int{1, 4}, 1, api.ErrBroken)
		wantFault(t, g, 5, []int{1, 8, 4}, 1, api.ErrNoEdge)
	}
}

// byRule: Records of another kind than a struct: every number is an edge, from its half to itself.
type byRule func(e int) api.Edge

func (f byRule) Edge(e int) (api.Edge, api.Errno) { return f(e), api.OK }

func TestRecordsOfAnyKind(t *testing.T) {
	g := byRule(func(e int) api.Edge { return api.Edge{U: e / 2, V: e, Bits: 0x3f800000} })
	wantFollow(t, g, 0, []int{1, 2, 5, 11}, 11, 0x40800000, 0, api.OK)
	wantThrough(t, g, -1, []int{-2, -5}, -1, -2, -5)
	wantSimple(t, g, 0, []int{0, 0, 1, 3}, 1, 3)
	wantFault(t, g, 0, []int{0, 1, 4}, 2, api.ErrBroken)
}

// A store is Records; its gauge tells how often it was asked for a record.
func TestStoreIsRecords(t *testing.T) {
	s := store.New()
	for _, v := range []int{5, 7, 9} {
		s.AddVertex(v)
	}
	for _, x := range []api.Edge{edge(5, 9, 1), edge(9, 9, 2), edge(9, 5, 4), edge(5, 7, 8)} {
		s.AddEdge(x.U, x.V, x.Bits)
	}
	writes := s.Writes()
	es := []int{1, 2, 3, 4}
	for _, c := range []struct {
		do   func()
		want int
	}{
		{func() { wantFollow(t, s, 5, es, 7, 0x41700000, 0, api.OK) }, 4},
		{func() { wantThrough(t, s, 5, es, 5, 9, 9, 5, 7) }, 4},
		{func() { wantSimple(t, s, 5, es, 4) }, 4},
		{func() { wantFault(t, s, 5, []int{1, 4, 1}, 1, api.ErrBroken) }, 6},
		{func() { wantFault(t, s, 5, []int{1, 9, 1}, 1, api.ErrNoEdge) }, 3},
		{func() {
			wantFollow(t, s, 8, nil, 8, 0, 0, api.OK)
			wantThrough(t, s, 8, nil, 8)
			wantSimple(t, s, 8, nil)
		}, 0},
	} {
		was := s.Reads()
		c.do()
		if s.Reads()-was != c.want || s.Writes() != writes {
			t.Errorf("P8.1: %d reads, not %d; %d writes, were %d", s.Reads()-was, c.want, s.Writes(), writes)
		}
	}
	s.DropEdge(2)
	wantFault(t, s, 5, es, 1, api.ErrNoEdge)
	wantSimple(t, s, 5, []int{1, 3, 4}, 4)
}
