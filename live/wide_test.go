package live_test

import (
	"slices"
	"testing"

	"bramble/api"
	"bramble/live"
)

// wantWide holds a distance and Touched against what is written out.
func wantWide(t *testing.T, x *live.Live, v int, want uint32, errno api.Errno, touched int) {
	t.Helper()
	if bits, got := x.Dist(v); bits != want || got != errno || x.Touched() != touched {
		t.Fatalf("P14.1: Dist(%d): %08x, %d, not %08x, %d; Touched %d, not %d", v, bits, got, want, errno, x.Touched(), touched)
	}
}

// A path of very many edges, put in from its end: each edge but the last one leads on from where no walk comes to.
func TestLongPath(t *testing.T) {
	const n = 200000
	x := live.New(0)
	for v := 1; v <= n; v++ {
		x.AddVertex(v)
	}
	var want []int
	for e := n; e >= 2; e-- {
		if x.Insert(edge(e, e-1, e, 1)) != api.OK || x.Touched() != 0 {
			t.Fatalf("P14.3: Touched: %d", x.Touched())
		}
	}
	x.Insert(edge(1, 0, 1, 1))
	wantWide(t, x, n, bitsOf(n), api.OK, n)
	for e := 1; e <= n; e++ {
		want = append(want, e)
	}
	if path, errno := x.Path(n); !slices.Equal(path, want) || errno != api.OK {
		t.Fatalf("P14.2: a path of %d edges, %d", len(path), errno)
	}
	x.Reweigh(1, two)
	wantWide(t, x, n, bitsOf(n+1), api.OK, n)
	x.Insert(edge(n+1, 0, n/2, 7))
	wantWide(t, x, n, bitsOf(n/2+7), api.OK, n/2+1)
	x.Delete(1)
	wantWide(t, x, n/2-1, 0, api.ErrNoPath, n/2-1)
	x.Delete(n + 1)
	wantWide(t, x, n, 0, api.ErrNoPath, n/2+1)
	x.Insert(edge(1, 0, 1, 1))
	wantWide(t, x, n, bitsOf(n), api.OK, n)
	if got := len(x.Reached()); got != n+1 {
		t.Errorf("P14.1: %d are reached", got)
	}
	for e := n; e >= 1; e-- {
		if x.Delete(e) != api.OK || x.Touched() != 1 || !x.DropVertex(e) {
			t.Fatalf("P14.3: Delete(%d): touched %d", e, x.Touched())
		}
	}
	if got := x.Dists(); !slices.Equal(got, []api.Dist{{V: 0}}) {
		t.Errorf("P14.1: Dists: %v", got)
	}
}

// A vertex with very many edges loses and gets one without a look at the others' ends.
func TestWideStar(t *testing.T) {
	const n = 20000
	x := live.New(0)
	for v := 1; v <= n; v++ {
		x.AddVertex(v)
		x.Insert(edge(v, 0, v, 2))
		x.Insert(edge(n+v, v, 0, 0))
		wantWide(t, x, v, two, api.OK, 0)
	}
	for v := 1; v <= n; v++ {
		x.Reweigh(v, one)
		wantWide(t, x, v, one, api.OK, 1)
		x.Delete(v)
		wantWide(t, x, v, 0, api.ErrNoPath, 1)
		if x.DropVertex(v) || x.Delete(n+v) != api.OK || !x.DropVertex(v) {
			t.Fatalf("P14.1: DropVertex(%d)", v)
		}
	}
	if got := x.Dists(); !slices.Equal(got, []api.Dist{{V: 0}}) {
		t.Errorf("P14.1: Dists: %v", got)
	}
}

// A small part of a large graph is repaired by itself.
func TestSmallPartOfLargeGraph(t *testing.T) {
	const n = 3000
	x := live.New(0)
	for v := 1; v <= 2*n; v++ {
		x.AddVertex(v)
	}
	for v := 1; v <= n; v++ {
		x.Insert(edge(v, 0, v, 1))
		x.Insert(edge(n+v, v, n+v, 1))
		x.Insert(edge(2*n+v, n+v, v, 0))
	}
	for v := 1; v <= n; v++ {
		x.Delete(v)
		wantWide(t, x, n+v, 0, api.ErrNoPath, 2)
		x.Insert(edge(v, 0, v, 1))
		wantWide(t, x, n+v, two, api.OK, 2)
		x.Delete(2*n + v)
		wantWide(t, x, n+v, two, api.OK, 0)
	}
}
