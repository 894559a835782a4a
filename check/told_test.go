package check_test

import (
	"math/rand/v2"
	"slices"
	"testing"

	"bramble/api"
	"bramble/check"
	"bramble/reach"
	"bramble/store"
	"bramble/tree"
	"bramble/walk"
)

// whole: a store and an index of reach over it.
type whole struct {
	store *store.Store
	index *reach.Index
}

func newWhole() whole { return whole{store.New(), reach.New()} }

func (g whole) addVertex(v int) {
	if g.store.AddVertex(v) == api.OK {
		g.index.AddVertex(v)
	}
}

func (g whole) addEdge(u, v int, bits uint32) {
	if e, errno := g.store.AddEdge(u, v, bits); errno == api.OK {
		g.index.AddArc(e, u, v)
	}
}

func (g whole) records() []api.Edge {
	var list []api.Edge
	for _, e := range g.store.Edges() {
		x, _ := g.store.Edge(e)
		list = append(list, x)
	}
	return list
}

// told: witnesses of all that the index of reach and the trees of cheapest walks say.
func (g whole) told(t *testing.T) []api.Witness {
	t.Helper()
	var list []api.Witness
	for _, u := range g.store.Vertices() {
		cheapest, errno := tree.Build(g.store.Vertices(), g.records(), u)
		if errno != api.OK {
			t.Fatal(errno)
		}
		for _, v := range g.store.Vertices() {
			es, ok := g.index.Walk(u, v)
			if !ok {
				continue
			}
			_, bits, _, _ := walk.Follow(g.store, u, es)
			list = append(list, api.Witness{From: u, To: v, Bits: bits, Edges: es})
			bits, _ = cheapest.Dist(v)
			es, _ = cheapest.Path(v)
			list = append(list, api.Witness{From: u, To: v, Bits: bits, Edges: es})
		}
	}
	return list
}

func drawnWhole(r *rand.Rand, n, m int) whole {
	g := newWhole()
	for v := range n {
		g.addVertex(v * 7)
	}
	for range m {
		g.addEdge(7*r.IntN(n), 7*r.IntN(n), 0x3f800000+r.Uint32N(1<<24))
	}
	return g
}

// All that was told is accepted; when an edge of it has gone it is refused, where this edge stands first; when it is there again it is accepted again.
func TestToldAndGone(t *testing.T) {
	r := rand.New(rand.NewPCG(17, 5))
	for range 60 {
		g := drawnWhole(r, 2+r.IntN(6), r.IntN(16))
		for _, w := range g.told(t) {
			wantCheck(t, g.store, w, 0, api.OK)
			for place, e := range w.Edges {
				gone, _ := g.store.DropEdge(e)
				wantCheck(t, g.store, w, place, api.ErrNoEdge)
				g.store.PutEdge(gone)
				wantCheck(t, g.store, w, 0, api.OK)
			}
		}
	}
}

// When an edge's weight has changed the cost is another one, unless rounding swallows the difference.
func TestToldAndWeighed(t *testing.T) {
	r := rand.New(rand.NewPCG(17, 6))
	refused, swallowed := 0, 0
	for range 60 {
		g := drawnWhole(r, 2+r.IntN(6), r.IntN(16))
		for _, w := range g.told(t) {
			for _, e := range w.Edges {
				x, _ := g.store.Edge(e)
				for _, bits := range []uint32{0, x.Bits + 1, x.Bits - 1, greatest} {
					was, _ := g.store.Reweigh(e, bits)
					if _, cost, _, _ := walk.Follow(g.store, w.From, w.Edges); cost == w.Bits {
						wantCheck(t, g.store, w, 0, api.OK)
						swallowed++
					} else {
						wantCheck(t, g.store, w, 0, api.ErrCost)
						refused++
					}
					g.store.Reweigh(e, was)
				}
			}
			wantCheck(t, g.store, w, 0, api.OK)
		}
	}
	if refused < 1000 || swallowed < 10 {
		t.Errorf("%d refused, %d swallowed", refused, swallowed)
	}
}

// When an edge leads elsewhere now, under its old number.
func TestToldAndTurned(t *testing.T) {
	r := rand.New(rand.NewPCG(17, 7))
	for range 60 {
		g := drawnWhole(r, 3+r.IntN(5), 5+r.IntN(12))
		g.addVertex(3)
		for _, w := range g.told(t) {
			for place, e := range w.Edges {
				was, _ := g.store.DropEdge(e)
				g.store.PutEdge(api.Edge{E: e, U: 3, V: was.V, Bits: was.Bits})
				wantCheck(t, g.store, w, place, api.ErrBroken)
				g.store.DropEdge(e)
				g.store.PutEdge(api.Edge{E: e, U: was.U, V: 3, Bits: was.Bits})
				if place+1 < len(w.Edges) {
					wantCheck(t, g.store, w, place+1, api.ErrBroken)
				} else {
					wantCheck(t, g.store, w, 0, api.ErrEnd)
				}
				g.store.DropEdge(e)
				g.store.PutEdge(was)
			}
		}
	}
}

// When a vertex has gone, with its edges: of its own walks the end is missing, of those that come by it an edge.
func TestToldAndVertexGone(t *testing.T) {
	r := rand.New(rand.NewPCG(17, 8))
	for range 100 {
		g := drawnWhole(r, 3+r.IntN(4), 4+r.IntN(10))
		list := g.told(t)
		stops := make([][]int, len(list))
		for i, w := range list {
			stops[i], _, _ = walk.Through(g.store, w.From, w.Edges)
		}
		g.store.DropVertex(7)
		for i, w := range list {
			switch at := slices.Index(stops[i], 7); {
			case w.From == 7 || w.To == 7:
				wantCheck(t, g.store, w, 0, api.ErrNoVertex)
			case at < 0:
				wantCheck(t, g.store, w, 0, api.OK)
			default:
				wantCheck(t, g.store, w, at-1, api.ErrNoEdge)
			}
		}
	}
}

// The gauge rises by the edges of the witness at most, and nothing of the store is another one.
func TestStoreIsOnlyAsked(t *testing.T) {
	r := rand.New(rand.NewPCG(17, 9))
	for range 200 {
		g := drawnWhole(r, 2+r.IntN(4), r.IntN(12))
		list := g.told(t)
		for _, w := range slices.Clone(list) {
			list = append(list, spoil(r, w, 12), api.Witness{From: w.From, To: w.To, Bits: w.Bits, Edges: slices.Repeat(w.Edges, 3)})
		}
		was, writes := pictureOf(g.store), g.store.Writes()
		for _, w := range list {
			b := bytesOf(t, w)
			reads := g.store.Reads()
			check.Check(g.store, b)
			if n := g.store.Reads() - reads; n > len(w.Edges) {
				t.Fatalf("P17.1: Check of %v reads %d records", w, n)
			}
			reads = g.store.Reads()
			check.Claim(g.store, w.From, w.To, w.Bits, b)
			if n := g.store.Reads() - reads; n > len(w.Edges) {
				t.Fatalf("P17.1: Claim of %v reads %d records", w, n)
			}
			reads = g.store.Reads()
			check.Claim(g.store, w.From, w.To, w.Bits+1, b)
			check.Check(g.store, b[1:])
			if n := g.store.Reads() - reads; n > 2*len(w.Edges) {
				t.Fatalf("P17.1: refused calls of %v read %d records", w, n)
			}
		}
		now := pictureOf(g.store)
		if !slices.Equal(now.vertices, was.vertices) || !slices.Equal(now.edges, was.edges) || !slices.EqualFunc(now.lists, was.lists, slices.Equal) || now.free != was.free || g.store.Writes() != writes {
			t.Fatalf("P17.2: the store is %v, and was %v; %d writes, not %d", now, was, g.store.Writes(), writes)
		}
	}
}

// picture: all that a store tells, but for its gauge.
type picture struct {
	vertices []int
	edges    []api.Edge
	// Of each vertex the edges that leave it and that enter it.
	lists [][]int
	free  int
}

func pictureOf(s *store.Store) picture {
	p := picture{vertices: s.Vertices(), free: s.Free()}
	for _, e := range s.Edges() {
		x, _ := s.Edge(e)
		p.edges = append(p.edges, x)
	}
	for _, v := range s.Vertices() {
		p.lists = append(p.lists, s.Out(v), s.In(v))
	}
	return p
}
