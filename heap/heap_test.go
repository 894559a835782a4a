package heap_test

import (
	"math"
	"strconv"
	"testing"

	"bramble/heap"
)

func intLess(a, b int) bool { return a < b }

func want(t *testing.T, what string, got, want bool) {
	t.Helper()
	if got != want {
		t.Errorf("%s: %v, not %v", what, got, want)
	}
}

func wantLen[K comparable, P any](t *testing.T, h *heap.Heap[K, P], n int) {
	t.Helper()
	if got := h.Len(); got != n {
		t.Errorf("Len: %d, not %d", got, n)
	}
}

func wantGet[K, P comparable](t *testing.T, h *heap.Heap[K, P], k K, p P, ok bool) {
	t.Helper()
	if gp, gok := h.Get(k); gp != p || gok != ok {
		t.Errorf("Get(%v): %v, %v, not %v, %v", k, gp, gok, p, ok)
	}
}

func wantPeek[K, P comparable](t *testing.T, h *heap.Heap[K, P], k K, p P, ok bool) {
	t.Helper()
	if gk, gp, gok := h.Peek(); gk != k || gp != p || gok != ok {
		t.Errorf("Peek: %v, %v, %v, not %v, %v, %v", gk, gp, gok, k, p, ok)
	}
}

func wantPop[K, P comparable](t *testing.T, h *heap.Heap[K, P], k K, p P, ok bool) {
	t.Helper()
	if gk, gp, gok := h.Pop(); gk != k || gp != p || gok != ok {
		t.Errorf("Pop: %v, %v, %v, not %v, %v, %v", gk, gp, gok, k, p, ok)
	}
}

// wantEmpty: no key is in, and what has nothing to tell tells zero values.
func wantEmpty[K, P comparable](t *testing.T, h *heap.Heap[K, P], keys ...K) {
	t.Helper()
	var k K
	var p P
	wantLen(t, h, 0)
	wantPeek(t, h, k, p, false)
	wantPop(t, h, k, p, false)
	for _, key := range keys {
		wantGet(t, h, key, p, false)
		want(t, "Lower of a key that isn't in", h.Lower(key, p), false)
		want(t, "Drop of a key that isn't in", h.Drop(key), false)
	}
	wantLen(t, h, 0)
}

func TestExamples(t *testing.T) {
	h := heap.New[string](intLess)
	want(t, `Push("a", 5)`, h.Push("a", 5), true)
	want(t, `Push("b", 3)`, h.Push("b", 3), true)
	want(t, `Push("c", 3)`, h.Push("c", 3), true)
	want(t, `Push("a", 1)`, h.Push("a", 1), false)
	wantPeek(t, h, "b", 3, true)
	want(t, `Lower("a", 3)`, h.Lower("a", 3), true)
	want(t, `Lower("a", 3)`, h.Lower("a", 3), false)
	wantPop(t, h, "a", 3, true)
	wantPop(t, h, "b", 3, true)
	want(t, `Push("b", 3)`, h.Push("b", 3), true)
	wantPop(t, h, "c", 3, true)
	wantPop(t, h, "b", 3, true)
	wantPop(t, h, "", 0, false)
}

func TestWithoutKeys(t *testing.T) {
	wantEmpty(t, heap.New[string](intLess), "", "a")
	wantEmpty(t, heap.New[int, string](nil), 0, 1, -1)
	wantEmpty(t, heap.New[[2]int](func(a, b *int) bool { return *a < *b }), [2]int{}, [2]int{1, 2})
	h := heap.New[int](intLess)
	h.Push(7, 9)
	h.Pop()
	wantEmpty(t, h, 0, 7)
	h.Push(7, 9)
	h.Drop(7)
	wantEmpty(t, h, 0, 7)
}

func TestOneKey(t *testing.T) {
	h := heap.New[string](intLess)
	want(t, "Push", h.Push("", 4), true)
	wantLen(t, h, 1)
	wantPeek(t, h, "", 4, true)
	wantGet(t, h, "", 4, true)
	wantGet(t, h, "a", 0, false)
	want(t, "Drop of another key", h.Drop("a"), false)
	want(t, "Lower of another key", h.Lower("a", 0), false)
	wantPop(t, h, "", 4, true)
	wantEmpty(t, h, "", "a")
}

func TestPushedTwice(t *testing.T) {
	for _, again := range []int{2, 5, 8} {
		h := heap.New[string](intLess)
		h.Push("a", 5)
		h.Push("b", 4)
		want(t, "Push of a key that is in", h.Push("a", again), false)
		wantLen(t, h, 2)
		wantGet(t, h, "a", 5, true)
		wantPop(t, h, "b", 4, true)
		wantPop(t, h, "a", 5, true)
		wantEmpty(t, h, "a", "b")
	}
}

func TestLowered(t *testing.T) {
	h := heap.New[string](intLess)
	h.Push("a", 5)
	h.Push("b", 4)
	want(t, "Lower to its own rank", h.Lower("a", 5), false)
	wantGet(t, h, "a", 5, true)
	want(t, "Lower to a greater one", h.Lower("a", 6), false)
	wantGet(t, h, "a", 5, true)
	wantPeek(t, h, "b", 4, true)
	want(t, "Lower to a lesser one", h.Lower("a", 3), true)
	wantGet(t, h, "a", 3, true)
	wantPeek(t, h, "a", 3, true)
	want(t, "Lower to the least one", h.Lower("b", math.MinInt), true)
	wantLen(t, h, 2)
	wantPop(t, h, "b", math.MinInt, true)
	wantPop(t, h, "a", 3, true)
	want(t, "Lower of a key that was taken out", h.Lower("a", 1), false)
	wantEmpty(t, h, "a", "b")
}

// A key that is lowered keeps its place in the order, one that is put in again doesn't.
func TestOrderOfAlikeRanks(t *testing.T) {
	h := heap.New[string](intLess)
	h.Push("late", 9)
	h.Push("b", 3)
	h.Push("out", 3)
	h.Push("dropped", 3)
	h.Push("c", 4)
	h.Lower("c", 3)
	h.Lower("late", 5)
	h.Lower("late", 3)
	h.Drop("dropped")
	h.Push("dropped", 3)
	h.Push("d", 3)
	wantPop(t, h, "late", 3, true)
	h.Push("late", 3)
	wantPop(t, h, "b", 3, true)
	wantPop(t, h, "out", 3, true)
	h.Push("out", 2)
	wantPop(t, h, "out", 2, true)
	wantPop(t, h, "c", 3, true)
	wantPop(t, h, "dropped", 3, true)
	wantPop(t, h, "d", 3, true)
	wantPop(t, h, "late", 3, true)
	wantEmpty(t, h, "late", "b", "out")
}

func TestManyOfOneRank(t *testing.T) {
	for _, less := range []func(a, b int) bool{intLess, nil, func(a, b int) bool { return false }} {
		h := heap.New[string](less)
		for i := range 1000 {
			want(t, "Push", h.Push(strconv.Itoa(i*7%1000), 5), true)
		}
		wantLen(t, h, 1000)
		for i := range 1000 {
			wantPop(t, h, strconv.Itoa(i*7%1000), 5, true)
		}
		wantEmpty(t, h, "0", "999")
	}
}

// A less that is nil makes all ranks alike: the keys come as they were put in, and none is lowered.
func TestNilLess(t *testing.T) {
	h := heap.New[string, int](nil)
	for i, k := range []string{"c", "a", "b", "d"} {
		want(t, "Push", h.Push(k, 10-i), true)
	}
	want(t, "Lower to a lesser number", h.Lower("d", 0), false)
	want(t, "Lower to its own", h.Lower("d", 7), false)
	want(t, "Lower of no key", h.Lower("z", 0), false)
	want(t, "Push of a key that is in", h.Push("d", 0), false)
	wantGet(t, h, "d", 7, true)
	wantPeek(t, h, "c", 10, true)
	want(t, "Drop", h.Drop("a"), true)
	h.Push("a", 1)
	wantPop(t, h, "c", 10, true)
	wantPop(t, h, "b", 8, true)
	wantPop(t, h, "d", 7, true)
	wantPop(t, h, "a", 1, true)
	wantEmpty(t, h, "a", "b", "c", "d")
}

// The last key comes from another branch, and belongs above the place of the dropped one.
func TestDropWhereTheLastRises(t *testing.T) {
	h := heap.New[int](intLess)
	for _, rank := range []int{0, 10, 1, 11, 12, 2, 3} {
		h.Push(rank, rank)
	}
	want(t, "Drop", h.Drop(11), true)
	for _, rank := range []int{0, 1, 2, 3, 10, 12} {
		wantPop(t, h, rank, rank, true)
	}
	wantEmpty(t, h, 11)
}

func TestDropAtEveryPlace(t *testing.T) {
	for n := range 20 {
		for dropped := range n {
			h := heap.New[int](intLess)
			for i := range n {
				h.Push(i, i*7%n)
			}
			want(t, "Drop", h.Drop(dropped), true)
			want(t, "Drop once more", h.Drop(dropped), false)
			wantLen(t, h, n-1)
			wantGet(t, h, dropped, 0, false)
			last := -1
			for h.Len() > 0 {
				k, p, ok := h.Pop()
				if k == dropped || p != k*7%n || p < last || !ok {
					t.Fatalf("Pop of %d without %d: %d, %d, %v behind %d", n, dropped, k, p, ok, last)
				}
				last = p
			}
			wantEmpty(t, h, dropped)
		}
	}
}

func TestFloatKeys(t *testing.T) {
	minus := math.Copysign(0, -1)
	h := heap.New[float64](intLess)
	want(t, "Push(-0)", h.Push(minus, 5), true)
	want(t, "Push(0), which is the same key", h.Push(0, 4), false)
	want(t, "Push(+Inf)", h.Push(math.Inf(1), 4), true)
	want(t, "Lower(0)", h.Lower(0, 3), true)
	if k, _, _ := h.Peek(); k != 0 || !math.Signbit(k) {
		t.Errorf("Peek: %v, not the key that was put in", k)
	}
	want(t, "Drop(0)", h.Drop(0), true)
	wantPop(t, h, math.Inf(1), 4, true)
	wantEmpty(t, h, 0, minus, math.Inf(1))
}

func TestHeapsApart(t *testing.T) {
	one, other := heap.New[string](intLess), heap.New[string](intLess)
	one.Push("a", 2)
	one.Push("b", 1)
	other.Push("a", 7)
	one.Lower("a", 0)
	wantGet(t, other, "a", 7, true)
	wantGet(t, other, "b", 0, false)
	other.Drop("a")
	wantEmpty(t, other, "a", "b")
	wantPop(t, one, "a", 0, true)
	wantPop(t, one, "b", 1, true)
	wantEmpty(t, one, "a", "b")
}

// A call on a great heap asks for no more pairs than the way from its root to a leaf and back has.
func TestGreatHeap(t *testing.T) {
	const n = 1 << 15
	asked, most := 0, 0
	h := heap.New[int](func(a, b int) bool { asked++; return a < b })
	count := func(ok bool) {
		t.Helper()
		most = max(most, asked)
		asked = 0
		if !ok {
			t.Fatal("a call answered false")
		}
	}
	for i := range n {
		count(h.Push(i, 3*n-i))
	}
	for i := range n {
		count(h.Lower(i, 2*n-i*5%n))
	}
	for i := 0; i < n; i += 2 {
		count(h.Drop(i))
	}
	last := 0
	for range n / 2 {
		k, p, ok := h.Pop()
		count(ok && k%2 == 1 && p == 2*n-k*5%n && p > last)
		last = p
	}
	wantEmpty(t, h, 0, n)
	if most > 50 {
		t.Errorf("one call asked for %d pairs", most)
	}
}
