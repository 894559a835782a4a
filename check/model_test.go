package check_test

import (
	"math"
	"slices"
	"testing"

	"bramble/api"
	"bramble/check"
	"bramble/witness"
)

// book: a graph made by hand, that tells what it was asked.
type book struct {
	vertices map[int]bool
	edges    map[int]api.Edge
	// Of some edges, an error that is answered beside the record.
	refused map[int]api.Errno
	asked   []int
}

func (b *book) Has(v int) bool { return b.vertices[v] }

func (b *book) Edge(e int) (api.Edge, api.Errno) {
	b.asked = append(b.asked, e)
	return b.look(e)
}

func (b *book) look(e int) (api.Edge, api.Errno) {
	x, ok := b.edges[e]
	if errno := b.refused[e]; errno != api.OK {
		return x, errno
	}
	if !ok {
		return api.Edge{}, api.ErrNoEdge
	}
	return x, api.OK
}

// newBook: these edges, numbered from 1 on, and as vertices all their ends.
func newBook(edges ...api.Edge) *book {
	b := &book{vertices: map[int]bool{}, edges: map[int]api.Edge{}, refused: map[int]api.Errno{}}
	for i, x := range edges {
		x.E = i + 1
		b.edges[x.E] = x
		b.vertices[x.U], b.vertices[x.V] = true, true
	}
	return b
}

func edge(u, v int, bits uint32) api.Edge { return api.Edge{U: u, V: v, Bits: bits} }

// countsAs: what layer 1 says of these bits, as a float64.
func countsAs(bits uint32) float64 {
	switch w := float64(math.Float32frombits(bits)); {
	case w == 0:
		return 0
	case w > 0:
		return w
	default:
		return math.Inf(1)
	}
}

// fold adds in float64, where the sum of two float32 is near enough to be rounded as the exact one is.
func fold(bits []uint32) uint32 {
	sum := float32(0)
	for _, b := range bits {
		exact := float64(sum) + countsAs(b)
		if exact >= 0x1p128-0x1p103 {
			exact = math.Inf(1)
		}
		sum = float32(exact)
	}
	return math.Float32bits(sum)
}

// judged: what the chapter's words say of a witness. Each place of the list is looked at for itself: the edge ahead of it says where it has to begin.
func (b *book) judged(w api.Witness) (int, api.Errno) {
	if !b.vertices[w.From] || !b.vertices[w.To] {
		return 0, api.ErrNoVertex
	}
	ends, bits := []int{w.From}, []uint32{}
	for place, e := range w.Edges {
		x, errno := b.look(e)
		if errno != api.OK {
			return place, api.ErrNoEdge
		}
		if x.U != ends[place] {
			return place, api.ErrBroken
		}
		ends, bits = append(ends, x.V), append(bits, x.Bits)
	}
	if ends[len(ends)-1] != w.To {
		return 0, api.ErrEnd
	}
	if fold(bits) != w.Bits {
		return 0, api.ErrCost
	}
	return 0, api.OK
}

func same(a, b api.Witness) bool {
	return a.From == b.From && a.To == b.To && a.Bits == b.Bits && slices.Equal(a.Edges, b.Edges)
}

// bytesOf: of a witness.
func bytesOf(t *testing.T, w api.Witness) []byte {
	t.Helper()
	b, errno := witness.Encode(w)
	if errno != api.OK {
		t.Fatalf("no witness is %v: %d", w, errno)
	}
	return b
}

// head: as much of b as can be told.
func head(b []byte) []byte { return b[:min(40, len(b))] }

// wantCheck: of Check and of Claim of just what the bytes tell, whatever the model says.
func wantCheck(t *testing.T, g check.Graph, w api.Witness, place int, errno api.Errno) {
	t.Helper()
	wantBytes(t, g, w, bytesOf(t, w), place, errno)
}

func wantBytes(t *testing.T, g check.Graph, w api.Witness, b []byte, place int, errno api.Errno) {
	t.Helper()
	want := api.Witness{}
	if errno == api.OK {
		want = w
	}
	got, at, e := check.Check(g, b)
	if !same(got, want) || at != place || e != errno {
		t.Fatalf("P17.1: Check of %v: %v, %d, %d, not %v, %d, %d", w, got, at, e, want, place, errno)
	}
	if at, e := check.Claim(g, w.From, w.To, w.Bits, b); at != place || e != errno {
		t.Fatalf("P17.1: Claim of %v: %d, %d, not %d, %d", w, at, e, place, errno)
	}
}

// wantNone: these bytes are no witness's, whatever is claimed of them.
func wantNone(t *testing.T, g check.Graph, b []byte) {
	t.Helper()
	if w, at, e := check.Check(g, b); !same(w, api.Witness{}) || at != 0 || e != api.ErrWitness {
		t.Fatalf("P17.1: Check(%v): %v, %d, %d, not ErrWitness", head(b), w, at, e)
	}
	for _, v := range []int{0, 5, 9, -1, math.MinInt, math.MaxInt} {
		if at, e := check.Claim(g, v, 9, 0x3f800000, b); at != 0 || e != api.ErrWitness {
			t.Fatalf("P17.1: Claim(%d, 9, 1, %v): %d, %d, not ErrWitness", v, head(b), at, e)
		}
	}
}

// wantClaim: that another claim of the bytes of w is told.
func wantClaim(t *testing.T, g check.Graph, from, to int, bits uint32, w api.Witness) {
	t.Helper()
	if at, e := check.Claim(g, from, to, bits, bytesOf(t, w)); at != 0 || e != api.ErrClaim {
		t.Fatalf("P17.1: Claim of %d, %d, %08x and %v: %d, %d, not ErrClaim", from, to, bits, w, at, e)
	}
}

// wantAsked: each edge of the list at most once, and no other one.
func (b *book) wantAsked(t *testing.T, es []int) {
	t.Helper()
	for i, e := range b.asked {
		if !slices.Contains(es, e) || slices.Contains(b.asked[:i], e) {
			t.Fatalf("P17.1: of the witness's edges %v are asked %v", es, b.asked)
		}
	}
	b.asked = nil
}

// try holds both calls of a witness's bytes against the model, with what they ask.
func try(t *testing.T, g *book, w api.Witness) {
	t.Helper()
	tryEncoded(t, g, w, bytesOf(t, w))
}

func tryEncoded(t *testing.T, g *book, w api.Witness, b []byte) {
	t.Helper()
	place, errno := g.judged(w)
	want := api.Witness{}
	if errno == api.OK {
		want = w
	}
	g.asked = nil
	got, at, e := check.Check(g, b)
	if !same(got, want) || at != place || e != errno {
		t.Fatalf("P17.1: %v %v: Check of %v: %v, %d, %d, not %v, %d, %d", g.vertices, g.edges, w, got, at, e, want, place, errno)
	}
	g.wantAsked(t, w.Edges)
	if at, e := check.Claim(g, w.From, w.To, w.Bits, b); at != place || e != errno {
		t.Fatalf("P17.1: %v %v: Claim of %v: %d, %d, not %d, %d", g.vertices, g.edges, w, at, e, place, errno)
	}
	g.wantAsked(t, w.Edges)
}

// tryBytes: likewise of any bytes; layer 16 says whose they are. Are they some witness's?
func tryBytes(t *testing.T, g *book, b []byte) bool {
	t.Helper()
	w, errno := witness.Decode(b)
	if errno == api.OK {
		tryEncoded(t, g, w, b)
		return true
	}
	g.asked = nil
	wantNone(t, g, b)
	g.wantAsked(t, nil)
	return false
}
