package reach_test

import (
	"maps"
	"math/rand/v2"
	"slices"
	"testing"

	"bramble/api"
	"bramble/reach"
)

// A cover has at most 256 nodes; an index may have any number of components. These are the sizes at which that shows.
var sizes = []int{255, 256, 257, 511, 512, 513, 700}

// wide: a graph of many vertices, held against a plain search where the test asks for it.
type wide struct {
	t *testing.T
	x *reach.Index
	g plain
}

// newWide: the vertices 0 to n - 1.
func newWide(t *testing.T, n int) *wide {
	t.Helper()
	w := &wide{t, reach.New(), plain{vs: numbers(0, n), arcs: map[int]api.Arc{}}}
	for v := range n {
		if !w.x.AddVertex(v) {
			t.Fatalf("P12.1: AddVertex(%d): false", v)
		}
	}
	return w
}

func (w *wide) addArc(e, u, v int) {
	w.t.Helper()
	if errno := w.x.AddArc(e, u, v); errno != api.OK {
		w.t.Fatalf("P12.1: AddArc(%d, %d, %d): %d", e, u, v, errno)
	}
	w.g.arcs[e] = api.Arc{U: u, V: v}
}

func (w *wide) dropArc(e int) {
	w.t.Helper()
	if errno := w.x.DropArc(e); errno != api.OK {
		w.t.Fatalf("P12.1: DropArc(%d): %d", e, errno)
	}
	delete(w.g.arcs, e)
}

// compare: all pairs, by Reach and by labels, and the walks of some.
func (w *wide) compare(r *rand.Rand) {
	w.t.Helper()
	onward := w.g.onward()
	for _, u := range w.g.vs {
		reached := search(onward, u)
		post, label := w.x.Post(u), w.x.Label(u)
		if post < 1 || !goodRuns(label) {
			w.t.Fatalf("P12.1: Post(%d): %d, Label(%d): %v", u, post, u, label)
		}
		for _, v := range w.g.vs {
			if got := w.x.Reach(u, v); got != reached[v] || holds(label, w.x.Post(v)) != got {
				w.t.Fatalf("P12.1: Reach(%d, %d): %v, Label(%d): %v, Post(%d): %d", u, v, got, u, label, v, w.x.Post(v))
			}
			if same := w.x.Post(v) == post; same != (reached[v] && w.x.Reach(v, u)) {
				w.t.Fatalf("P12.1: Post(%d): %d, Post(%d): %d", u, post, v, w.x.Post(v))
			}
		}
		ends := slices.Sorted(maps.Keys(reached))
		for _, v := range []int{w.g.vs[r.IntN(len(w.g.vs))], ends[r.IntN(len(ends))]} {
			w.compareWalk(u, v, reached)
		}
	}
}

func (w *wide) compareWalk(u, v int, reached map[int]bool) {
	w.t.Helper()
	arcs, ok := w.x.Walk(u, v)
	if fault := w.g.fault(u, v, told{arcs, ok}); ok != reached[v] || fault != "" {
		w.t.Fatalf("P12.2: Walk(%d, %d): %v, %v: %s", u, v, arcs, ok, fault)
	}
}

func TestManyVerticesWithoutArcs(t *testing.T) {
	r := rand.New(rand.NewPCG(12, 8))
	for _, n := range sizes {
		w := newWide(t, n)
		w.compare(r)
		if !w.x.DropVertex(7) || w.x.Post(7) != 0 || len(w.x.Label(7)) > 0 || w.x.Reach(7, 7) {
			t.Fatalf("P12.1: of %d, 7 is still a vertex", n)
		}
		if !w.x.AddVertex(7) || !w.x.AddVertex(n) {
			t.Fatalf("P12.1: of %d, 7 and %d can't come", n, n)
		}
		w.g.vs = append(w.g.vs, n)
		w.compare(r)
	}
}

// A long path, up the numbers, down, and in no order of theirs; cut in the midst, and closed to a ring.
func TestLongPaths(t *testing.T) {
	r := rand.New(rand.NewPCG(12, 9))
	for _, n := range []int{256, 257, 513} {
		down := numbers(0, n)
		slices.Reverse(down)
		for _, path := range [][]int{numbers(0, n), down, r.Perm(n)} {
			w := newWide(t, n)
			for i := range n - 1 {
				w.addArc(i, path[i], path[i+1])
			}
			w.compare(r)
			if walk, ok := w.x.Walk(path[0], path[n-1]); !ok || !slices.Equal(walk, numbers(0, n-1)) {
				t.Fatalf("P12.2: along a path of %d: %v, %v", n, walk, ok)
			}
			w.dropArc(n / 2)
			w.compare(r)
			w.addArc(n, path[n-1], path[0])
			w.compare(r)
			w.addArc(n/2, path[n/2], path[n/2+1])
			if len(w.x.Heads()) != 1 || len(w.x.Members(0)) != n || w.x.Post(0) != w.x.Post(n-1) {
				t.Fatalf("P12.1: a ring of %d has %d components", n, len(w.x.Heads()))
			}
			w.dropArc(0)
			w.compare(r)
		}
	}
}

// Drawn arcs that lead on in a drawn order, so that all vertices are components of their own; some go again.
func TestManyComponents(t *testing.T) {
	r := rand.New(rand.NewPCG(12, 10))
	for _, n := range sizes {
		for _, arcs := range []int{n / 2, n, 3 * n} {
			w := newWide(t, n)
			line := r.Perm(n)
			for e := range arcs {
				i, j := r.IntN(n), r.IntN(n-1)
				if j >= i {
					j++
				}
				w.addArc(e, line[min(i, j)], line[max(i, j)])
			}
			if len(w.x.Heads()) != n {
				t.Fatalf("P12.1: %d components, not %d", len(w.x.Heads()), n)
			}
			w.compare(r)
			for _, e := range r.Perm(arcs)[:arcs/4] {
				w.dropArc(e)
			}
			w.compare(r)
		}
	}
}

// Rings of several sizes with drawn arcs between: some join, and fall apart again.
func TestManyRings(t *testing.T) {
	r := rand.New(rand.NewPCG(12, 11))
	for range 4 {
		const n = 900
		w := newWide(t, n)
		line, e := r.Perm(n), 0
		for begin := 0; begin < n; {
			size := min(1+r.IntN(4), n-begin)
			for i := range size {
				w.addArc(e, line[begin+i], line[begin+(i+1)%size])
				e++
			}
			begin += size
		}
		for range n / 2 {
			i, j := r.IntN(n), r.IntN(n)
			w.addArc(e, line[min(i, j)], line[max(i, j)])
			e++
		}
		w.compare(r)
		w.addArc(e, line[n-1], line[0])
		w.addArc(e+1, line[n-100], line[100])
		w.compare(r)
		for _, gone := range r.Perm(e)[:n/3] {
			w.dropArc(gone)
		}
		w.compare(r)
	}
}

// Where components come and go at the limit of one cover, all is right behind every single edit.
func TestEditsAtTheLimitOfACover(t *testing.T) {
	r := rand.New(rand.NewPCG(12, 12))
	const n = 258
	w := newWide(t, n)
	for i := range n - 3 {
		w.addArc(i, i, i+1+r.IntN(2))
	}
	edits := []func(){
		func() { w.addArc(n, n-1, 0) },
		func() { w.addArc(n+1, 2, 1) },
		func() { w.addArc(n+2, 200, 190) },
		func() { w.addArc(n+3, n-2, n-1) },
		func() { w.dropArc(n + 2) },
		func() { w.dropArc(n + 1) },
		func() { w.addArc(n+4, 257, 256) },
		func() { w.dropArc(n) },
		func() { w.dropArc(130) },
		func() { w.dropArc(n + 3) },
	}
	w.compare(r)
	for _, edit := range edits {
		edit()
		w.compare(r)
	}
}

// A path of very many vertices is gone along, cut, and gone along again.
func TestVeryLongPath(t *testing.T) {
	const n = 30000
	path := rand.New(rand.NewPCG(12, 13)).Perm(n)
	w := newWide(t, n)
	for i := range n - 1 {
		w.addArc(i, path[i], path[i+1])
	}
	walk, ok := w.x.Walk(path[0], path[n-1])
	if !ok || !slices.Equal(walk, numbers(0, n-1)) || w.x.Reach(path[n-1], path[0]) {
		t.Fatalf("P12.2: %d arcs, %v", len(walk), ok)
	}
	w.dropArc(n / 2)
	if w.x.Reach(path[0], path[n-1]) || !w.x.Reach(path[0], path[n/2]) || !w.x.Reach(path[n/2+1], path[n-1]) {
		t.Fatal("P12.1: the path that was cut in the midst")
	}
	w.addArc(n, path[n-1], path[0])
	walk, ok = w.x.Walk(path[n/2+1], path[n/2])
	if !ok || len(walk) != n-1 || walk[0] != n/2+1 || walk[n-2] != n/2-1 {
		t.Fatalf("P12.2: %d arcs, %v", len(walk), ok)
	}
}
