package walk_test

import (
	"math/rand/v2"
	"slices"
	"testing"

	"bramble/api"
)

// between: of n vertices, each pair's edge; that from u to v is u*n + v + 1.
func between(n int) *book {
	b := newBook()
	for u := range n {
		for v := range n {
			b.edges[u*n+v+1] = edge(u, v, float32(1+u*v))
		}
	}
	return b
}

// by: the edges of between(10) that lead by these vertices.
func by(stops ...int) []int {
	var es []int
	for i := 1; i < len(stops); i++ {
		es = append(es, stops[i-1]*10+stops[i]+1)
	}
	return es
}

func TestLoops(t *testing.T) {
	g := between(10)
	for _, c := range []struct {
		name        string
		stops, left []int
	}{
		{"back to the beginning", []int{0, 1, 2, 0}, []int{0}},
		{"back several times", []int{0, 1, 0, 2, 3, 0, 0, 4, 0}, []int{0}},
		{"back several times and on", []int{0, 1, 0, 2, 3, 0, 0, 4, 0, 5, 6}, []int{0, 5, 6}},
		{"there and back", []int{0, 1, 2, 3, 2, 1, 0}, []int{0}},
		{"a loop at the end", []int{0, 1, 2, 3, 4, 2}, []int{0, 1, 2}},
		{"a loop within a loop", []int{0, 1, 2, 3, 4, 3, 5, 1, 6}, []int{0, 1, 6}},
		{"loops within loops", []int{0, 1, 2, 3, 4, 4, 3, 5, 5, 2, 6, 2, 1, 7, 1, 8}, []int{0, 1, 8}},
		{"loops that are linked", []int{0, 1, 2, 3, 1, 4, 3, 2, 5}, []int{0, 1, 4, 3, 2, 5}},
		{"what a loop came by is come by again", []int{0, 1, 2, 0, 2, 1, 3}, []int{0, 2, 1, 3}},
		{"and again", []int{0, 1, 2, 3, 0, 3, 2, 1, 0, 2, 3, 1}, []int{0, 2, 3, 1}},
		{"into what was left out", []int{0, 1, 2, 3, 1, 3, 4, 2, 3, 5}, []int{0, 1, 3, 5}},
		{"two loops, the later one longer", []int{0, 1, 2, 1, 3, 4, 0, 4, 3, 2}, []int{0, 4, 3, 2}},
		{"not the shortest walk", []int{0, 1, 2, 3, 9}, []int{0, 1, 2, 3, 9}},
		{"not the first loop by its length", []int{0, 1, 2, 1, 0, 2}, []int{0, 2}},
	} {
		t.Run(c.name, func(t *testing.T) {
			wantThrough(t, g, c.stops[0], by(c.stops...), c.stops...)
			wantSimple(t, g, c.stops[0], by(c.stops...), by(c.left...)...)
			try(t, g, c.stops[0], by(c.stops...))
		})
	}
}

// Each list of at most five edges of those between three vertices, and of one that isn't there, from each vertex and from what is none.
func TestEveryShortList(t *testing.T) {
	g := between(3)
	var grow func(es []int)
	grow = func(es []int) {
		for from := -1; from <= 2; from++ {
			try(t, g, from, es)
		}
		if len(es) == 5 {
			return
		}
		for e := range 10 {
			grow(append(slices.Clone(es), e))
		}
	}
	grow(nil)
}

// Each walk of at most eight edges between three vertices.
func TestEveryShortWalk(t *testing.T) {
	g := between(3)
	var grow func(at int, es []int)
	grow = func(at int, es []int) {
		try(t, g, 1, es)
		if len(es) == 8 {
			return
		}
		for v := range 3 {
			grow(v, append(slices.Clone(es), at*3+v+1))
		}
	}
	grow(1, nil)
}

// The two ways in which the tests say what a walk without its loops is are one.
func TestModelsOfLoops(t *testing.T) {
	r := rand.New(rand.NewPCG(8, 1))
	for range 5000 {
		stops, es := []int{r.IntN(6)}, []int{}
		for i := range r.IntN(20) {
			stops, es = append(stops, r.IntN(6)), append(es, i)
		}
		if a, b := loopless(stops, es), cutAsTold(stops, es); !slices.Equal(a, b) {
			t.Fatalf("%v: %v, %v", stops, a, b)
		}
	}
}

// drawn: some edges between some vertices, with weights of all kinds.
func drawn(r *rand.Rand, vertices, edges int) *book {
	g := newBook()
	for e := range edges {
		x := api.Edge{U: r.IntN(vertices), V: r.IntN(vertices), E: r.IntN(9), Bits: 0x3f000000 + r.Uint32N(12<<23)}
		if r.IntN(30) == 0 {
			x.Bits = r.Uint32()
		}
		g.edges[e] = x
	}
	return g
}

// stroll: edges that lead on from a vertex, as far as there are any; now and then one that may not.
func stroll(r *rand.Rand, g *book, from, length, slips int) []int {
	leaving := map[int][]int{}
	for e := range len(g.edges) {
		leaving[g.edges[e].U] = append(leaving[g.edges[e].U], e)
	}
	var es []int
	for at := from; len(es) < length && len(leaving[at]) > 0; {
		e := leaving[at][r.IntN(len(leaving[at]))]
		if r.IntN(slips) == 0 {
			e = r.IntN(len(g.edges)+2) - 1
		}
		es = append(es, e)
		at = g.edges[e].V
	}
	return es
}

func TestDrawnWalks(t *testing.T) {
	r := rand.New(rand.NewPCG(8, 2))
	for turn := range 4000 {
		vertices := 1 + r.IntN(12)
		g := drawn(r, vertices, 1+r.IntN(40))
		from := r.IntN(vertices)
		try(t, g, from, stroll(r, g, from, r.IntN(60), 1+turn%200))
	}
	for range 20 {
		g := drawn(r, 200, 1000)
		try(t, g, 7, stroll(r, g, 7, 3000, 1<<30))
	}
}

// A long way there and back, again and again, and with a step back at each step.
func TestLongWalks(t *testing.T) {
	const n = 100000
	// Edge e leads from e-1 to e, edge -e back.
	line := byRule(func(e int) api.Edge {
		if e < 0 {
			return api.Edge{U: -e, V: -e - 1}
		}
		return api.Edge{U: e - 1, V: e}
	})
	var there, back, wobble []int
	for i := 1; i <= n; i++ {
		there, back, wobble = append(there, i), append(back, i-n-1), append(wobble, i, -i, i)
	}
	wantSimple(t, line, 0, there, there...)
	wantSimple(t, line, 0, slices.Concat(there, back))
	wantSimple(t, line, 0, slices.Concat(there, back, there, back, there), there...)
	wantSimple(t, line, 0, slices.Concat(there, back[:n/2], there[n/2:]), there...)
	wantSimple(t, line, 0, wobble, there...)
	wantFollow(t, line, 0, slices.Concat(there, back[:9]), n-9, 0, 0, api.OK)
	wantFault(t, line, 0, slices.Concat(there, back[1:]), n, api.ErrBroken)
}
