package check_test

import (
	"math/rand/v2"
	"slices"
	"testing"

	"bramble/api"
	"bramble/witness"
)

func decoded(t *testing.T, b []byte) api.Witness {
	t.Helper()
	w, errno := witness.Decode(b)
	if errno != api.OK {
		t.Fatalf("no witness: %v", b)
	}
	return w
}

// encoded: a witness and its bytes.
type encoded struct {
	w api.Witness
	b []byte
}

// smallWitnesses: from and to three vertices, by lists of the edges 1 to 3 of these lengths, of these bits.
func smallWitnesses(t *testing.T, least, most int, bits ...uint32) []encoded {
	var all []encoded
	var grow func(es []int)
	grow = func(es []int) {
		if len(es) >= least {
			for ends := range 9 {
				for _, b := range bits {
					w := api.Witness{From: ends / 3, To: ends % 3, Bits: b, Edges: slices.Clone(es)}
					all = append(all, encoded{w, bytesOf(t, w)})
				}
			}
		}
		if len(es) == most {
			return
		}
		for e := 1; e <= 3; e++ {
			grow(append(slices.Clone(es), e))
		}
	}
	grow(nil)
	return all
}

// smallGraphs: of two edges, each of which is missing or leads between the vertices 0, 1 and 2.
func smallGraphs(visit func(g *book)) {
	var kinds []api.Edge
	for ends := range 9 {
		kinds = append(kinds, edge(ends/3, ends%3, one), edge(ends/3, ends%3, 0))
	}
	for first := range len(kinds) + 1 {
		for second := range len(kinds) + 1 {
			g := newBook()
			if first < len(kinds) {
				g.edges[1] = kinds[first]
			}
			if second < len(kinds) {
				g.edges[2] = kinds[second]
			}
			visit(g)
		}
	}
}

// Each choice of vertices too.
func TestEverySmallGraph(t *testing.T) {
	all := smallWitnesses(t, 0, 2, 0, one, two)
	smallGraphs(func(g *book) {
		for chosen := range 8 {
			for v := range 3 {
				g.vertices[v] = chosen>>v&1 == 1
			}
			for _, c := range all {
				tryEncoded(t, g, c.w, c.b)
			}
		}
	})
}

func TestEveryLongerWalk(t *testing.T) {
	all := smallWitnesses(t, 3, 3, 0, one, two, 0x40400000)
	smallGraphs(func(g *book) {
		for v := range 3 {
			g.vertices[v] = true
		}
		for _, c := range all {
			tryEncoded(t, g, c.w, c.b)
		}
	})
}

// drawnGraph: some edges between some vertices, of weights of all kinds; not all ends are vertices.
func drawnGraph(r *rand.Rand, n, m int) *book {
	g := newBook()
	for v := range n {
		g.vertices[v] = r.IntN(10) > 0
	}
	for e := 1; e <= m; e++ {
		bits := 0x3f000000 + r.Uint32N(12<<23)
		switch r.IntN(20) {
		case 0:
			bits = r.Uint32()
		case 1:
			bits = greatest
		case 2:
			bits = minus0
		}
		x := edge(r.IntN(n), r.IntN(n), bits)
		x.E = r.IntN(5)
		g.edges[e] = x
		if r.IntN(30) == 0 {
			g.refused[e] = api.ErrNoEdge
		}
	}
	return g
}

// drawnWalk: along edges of g from a vertex, as long as there is one that leads on.
func (g *book) drawnWalk(r *rand.Rand, from, length, m int) api.Witness {
	w := api.Witness{From: from, To: from}
	var bits []uint32
	for range length {
		for range 10 {
			e := 1 + r.IntN(m)
			if x := g.edges[e]; x.U == w.To {
				w.Edges, w.To, bits = append(w.Edges, e), x.V, append(bits, x.Bits)
				break
			}
		}
	}
	w.Bits = fold(bits)
	return w
}

// spoil: one fault more.
func spoil(r *rand.Rand, w api.Witness, m int) api.Witness {
	w.Edges = slices.Clone(w.Edges)
	at := 0
	if len(w.Edges) > 0 {
		at = r.IntN(len(w.Edges))
	}
	switch what := r.IntN(7); {
	case what == 0:
		w.From = r.IntN(9)
	case what == 1:
		w.To = r.IntN(9)
	case what == 2:
		w.Bits ^= 1 << r.IntN(32)
	case what == 3 && len(w.Edges) > 0:
		w.Edges[at] = 1 + r.IntN(m+2)
	case what == 4 && len(w.Edges) > 0:
		w.Edges = slices.Delete(w.Edges, at, at+1)
	case what == 5:
		w.Edges = slices.Insert(w.Edges, at, 1+r.IntN(m))
	}
	return w
}

func TestDrawnWalks(t *testing.T) {
	r := rand.New(rand.NewPCG(17, 3))
	seen := map[api.Errno]int{}
	for range 20000 {
		n, m := 1+r.IntN(6), 1+r.IntN(12)
		g := drawnGraph(r, n, m)
		w := g.drawnWalk(r, r.IntN(n), r.IntN(20), m)
		for range 4 {
			try(t, g, w)
			_, errno := g.judged(w)
			seen[errno]++
			w = spoil(r, w, m)
		}
	}
	for _, errno := range []api.Errno{api.OK, api.ErrNoVertex, api.ErrNoEdge, api.ErrBroken, api.ErrEnd, api.ErrCost} {
		if seen[errno] < 1000 {
			t.Errorf("%d was drawn only %d times", errno, seen[errno])
		}
	}
}

func TestDrawnLongWalks(t *testing.T) {
	r := rand.New(rand.NewPCG(17, 4))
	for range 200 {
		g := drawnGraph(r, 4, 40)
		w := g.drawnWalk(r, r.IntN(4), 1020, 40)
		try(t, g, w)
		for range 3 {
			w = spoil(r, w, 40)
			try(t, g, w)
		}
	}
}
