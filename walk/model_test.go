package walk_test

import (
	"math"
	"slices"
	"testing"

	"bramble/api"
	"bramble/walk"
)

// book: Records made by hand, that tells what it was asked.
type book struct {
	edges map[int]api.Edge
	// Of some edges, an error that is answered beside the record.
	refused map[int]api.Errno
	asked   []int
}

func (b *book) Edge(e int) (api.Edge, api.Errno) {
	b.asked = append(b.asked, e)
	x, ok := b.edges[e]
	if errno := b.refused[e]; errno != api.OK {
		return x, errno
	}
	if !ok {
		return api.Edge{}, api.ErrNoEdge
	}
	return x, api.OK
}

// newBook: these edges; where a record's E is 0, it has the number of its place, from 1 on.
func newBook(edges ...api.Edge) *book {
	b := &book{edges: map[int]api.Edge{}, refused: map[int]api.Errno{}}
	for i, x := range edges {
		if x.E == 0 {
			x.E = i + 1
		}
		b.edges[x.E] = x
	}
	return b
}

func edge(u, v int, w float32) api.Edge { return api.Edge{U: u, V: v, Bits: math.Float32bits(w)} }

// told: what a list is, by the chapter's words.
type told struct {
	place int
	errno api.Errno
	stops []int
	bits  []uint32
}

// judge looks at each place for itself: the edge ahead of it says where it has to begin.
func (b *book) judge(from int, es []int) told {
	w := told{stops: []int{from}}
	for i := range es {
		begin := from
		if i > 0 {
			begin = b.edges[es[i-1]].V
		}
		x, ok := b.edges[es[i]]
		switch {
		case !ok || b.refused[es[i]] != api.OK:
			return told{place: i, errno: api.ErrNoEdge}
		case x.U != begin:
			return told{place: i, errno: api.ErrBroken}
		}
		w.stops, w.bits = append(w.stops, x.V), append(w.bits, x.Bits)
	}
	return w
}

// countsAs: what layer 1 says of these bits, as a float64.
func countsAs(bits uint32) float64 {
	switch w := float64(math.Float32frombits(bits)); {
	case w == 0:
		return 0
	case w > 0:
		return w
	default:
		return math.Inf(1)
	}
}

// foldBits adds in float64, where the sum of two float32 is near enough to be rounded as the exact one is.
func foldBits(bits []uint32) uint32 {
	sum := float32(0)
	for _, b := range bits {
		exact := float64(sum) + countsAs(b)
		if exact >= 0x1p128-0x1p103 {
			exact = math.Inf(1)
		}
		sum = float32(exact)
	}
	return math.Float32bits(sum)
}

// loopless: the edges by which the walk leaves, for the last time, from, then the vertex to which this edge leads, and so
// on. That is what is left when each loop is left out as soon as it is closed, found without going along.
func loopless(stops, es []int) []int {
	var left []int
	for v := stops[0]; ; {
		last := len(stops) - 1
		for stops[last] != v {
			last--
		}
		if last == len(es) {
			return left
		}
		left = append(left, es[last])
		v = stops[last+1]
	}
}

// cutAsTold: the chapter's words on loops, over a plain list of the walk's own stops.
func cutAsTold(stops, es []int) []int {
	been, left := []int{stops[0]}, []int{}
	for i, e := range es {
		been, left = append(been, stops[i+1]), append(left, e)
		if at := slices.Index(been, stops[i+1]); at < len(been)-1 {
			been, left = been[:at+1], left[:at]
		}
	}
	return left
}

func wantAsked(t *testing.T, what string, b *book, want []int) {
	t.Helper()
	if !slices.Equal(b.asked, want) {
		t.Fatalf("P8.1: %s: asked %v, not %v", what, b.asked, want)
	}
	b.asked = nil
}

func wantList(t *testing.T, what string, got, want []int, place, wantPlace int, errno, wantErrno api.Errno) {
	t.Helper()
	if !slices.Equal(got, want) || place != wantPlace || errno != wantErrno {
		t.Fatalf("P8.1: %s: %v, %d, %d, not %v, %d, %d", what, got, place, errno, want, wantPlace, wantErrno)
	}
}

// try holds the three calls against the model, with what they ask, and what P8.2 says of Simple.
func try(t *testing.T, b *book, from int, es []int) {
	t.Helper()
	b.asked = nil
	was, w := slices.Clone(es), b.judge(from, es)
	ask, end, cost, left := es, 0, uint32(0), []int(nil)
	if w.errno != api.OK {
		ask = es[:w.place+1]
	} else {
		end, cost, left = w.stops[len(es)], foldBits(w.bits), loopless(w.stops, es)
	}
	to, bits, place, errno := walk.Follow(b, from, es)
	if to != end || bits != cost || place != w.place || errno != w.errno {
		t.Fatalf("P8.1: Follow(%d, %v): %d, %08x, %d, %d, not %d, %08x, %d, %d", from, es, to, bits, place, errno, end, cost, w.place, w.errno)
	}
	wantAsked(t, "Follow", b, ask)
	stops, place, errno := walk.Through(b, from, es)
	wantList(t, "Through", stops, w.stops, place, w.place, errno, w.errno)
	wantAsked(t, "Through", b, ask)
	simple, place, errno := walk.Simple(b, from, es)
	wantList(t, "Simple", simple, left, place, w.place, errno, w.errno)
	wantAsked(t, "Simple", b, ask)
	if !slices.Equal(es, was) {
		t.Fatalf("P8.3: the list is %v, and was %v", es, was)
	}
	if w.errno == api.OK {
		trySimple(t, b, from, es, simple)
	}
}

// trySimple: what P8.2 says of a walk and of what Simple left of it, by the package's own calls.
func trySimple(t *testing.T, b *book, from int, es, simple []int) {
	t.Helper()
	end, cost, _, _ := walk.Follow(b, from, es)
	to, less, place, errno := walk.Follow(b, from, simple)
	if to != end || place != 0 || errno != api.OK {
		t.Fatalf("P8.2: Simple(%d, %v): %v, which leads to %d, %d, %d, not to %d", from, es, simple, to, place, errno, end)
	}
	if less > cost {
		t.Fatalf("P8.2: Simple(%d, %v): %v costs %08x, the walk %08x", from, es, simple, less, cost)
	}
	stops, _, _ := walk.Through(b, from, simple)
	slices.Sort(stops)
	if len(slices.Compact(stops)) != len(simple)+1 {
		t.Fatalf("P8.2: Simple(%d, %v): %v comes to a vertex twice", from, es, simple)
	}
	again, place, errno := walk.Simple(b, from, simple)
	if !slices.Equal(again, simple) || place != 0 || errno != api.OK {
		t.Fatalf("P8.2: Simple of %v: %v, %d, %d", simple, again, place, errno)
	}
	b.asked = nil
}
