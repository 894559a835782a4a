package heap_test

import (
	"bytes"
	"math"
	"math/rand/v2"
	"slices"
	"testing"

	"bramble/heap"
)

// held: a key that is in the model.
type held[K comparable, P any] struct {
	key  K
	rank P
}

// model: the chapter's words over a plain list, in the order in which the keys were put in.
type model[K comparable, P any] struct {
	less func(a, b P) bool
	all  []held[K, P]
}

func (m *model[K, P]) find(k K) int {
	return slices.IndexFunc(m.all, func(x held[K, P]) bool { return x.key == k })
}

// first: the place of the first key; -1, if none is in.
func (m *model[K, P]) first() int {
	return slices.IndexFunc(m.all, func(x held[K, P]) bool {
		return !slices.ContainsFunc(m.all, func(y held[K, P]) bool { return m.less(y.rank, x.rank) })
	})
}

func (m *model[K, P]) push(k K, p P) bool {
	if m.find(k) >= 0 {
		return false
	}
	m.all = append(m.all, held[K, P]{k, p})
	return true
}

func (m *model[K, P]) lower(k K, p P) bool {
	at := m.find(k)
	if at < 0 || !m.less(p, m.all[at].rank) {
		return false
	}
	m.all[at].rank = p
	return true
}

func (m *model[K, P]) drop(k K) bool {
	at := m.find(k)
	if at < 0 {
		return false
	}
	m.all = slices.Delete(m.all, at, at+1)
	return true
}

func (m *model[K, P]) peek() (k K, p P, ok bool) {
	at := m.first()
	if at < 0 {
		return k, p, false
	}
	return m.all[at].key, m.all[at].rank, true
}

func (m *model[K, P]) pop() (k K, p P, ok bool) {
	k, p, ok = m.peek()
	if ok {
		m.drop(k)
	}
	return k, p, ok
}

func (m *model[K, P]) get(k K) (p P, ok bool) {
	at := m.find(k)
	if at < 0 {
		return p, false
	}
	return m.all[at].rank, true
}

// pair: a heap and its model, to which the same is done.
type pair[K comparable, P any] struct {
	t    *testing.T
	h    *heap.Heap[K, P]
	m    *model[K, P]
	same func(a, b P) bool
}

func newPair[K comparable, P any](t *testing.T, less, same func(a, b P) bool) *pair[K, P] {
	return &pair[K, P]{t, heap.New[K](less), &model[K, P]{less: less}, same}
}

func (x *pair[K, P]) change(what string, got, want bool, k K, p P) {
	x.t.Helper()
	if got != want {
		x.t.Fatalf("%s(%v, %v): %v, not %v; in: %v", what, k, p, got, want, x.m.all)
	}
}

func (x *pair[K, P]) push(k K, p P) { x.change("Push", x.h.Push(k, p), x.m.push(k, p), k, p) }

func (x *pair[K, P]) lower(k K, p P) { x.change("Lower", x.h.Lower(k, p), x.m.lower(k, p), k, p) }

func (x *pair[K, P]) drop(k K) {
	var p P
	x.change("Drop", x.h.Drop(k), x.m.drop(k), k, p)
}

func (x *pair[K, P]) pop() {
	x.t.Helper()
	gk, gp, gok := x.h.Pop()
	k, p, ok := x.m.pop()
	if gk != k || !x.same(gp, p) || gok != ok {
		x.t.Fatalf("Pop: %v, %v, %v, not %v, %v, %v; left: %v", gk, gp, gok, k, p, ok, x.m.all)
	}
}

// compare holds what the calls that change nothing answer against the model's answers.
func (x *pair[K, P]) compare(keys []K) {
	x.t.Helper()
	if x.h.Len() != len(x.m.all) {
		x.t.Fatalf("Len: %d, in: %v", x.h.Len(), x.m.all)
	}
	gk, gp, gok := x.h.Peek()
	if k, p, ok := x.m.peek(); gk != k || !x.same(gp, p) || gok != ok {
		x.t.Fatalf("Peek: %v, %v, %v; in: %v", gk, gp, gok, x.m.all)
	}
	for _, key := range keys {
		gp, gok := x.h.Get(key)
		if p, ok := x.m.get(key); !x.same(gp, p) || gok != ok {
			x.t.Fatalf("Get(%v): %v, %v; in: %v", key, gp, gok, x.m.all)
		}
	}
}

func (x *pair[K, P]) drain(keys []K) {
	x.t.Helper()
	for x.h.Len() > 0 {
		x.pop()
	}
	x.pop()
	x.compare(keys)
}

// runCalls makes mixtures of calls, the same ones in every run: some that let the heap grow, some that let it shrink.
func runCalls[K comparable, P any](t *testing.T, keys []K, ranks []P, less, same func(a, b P) bool, calls int) {
	r := rand.New(rand.NewPCG(3, uint64(len(keys)*1000+len(ranks))))
	x := newPair[K](t, less, same)
	x.compare(keys)
	pushes := 6
	for i := range calls {
		k, p := keys[r.IntN(len(keys))], ranks[r.IntN(len(ranks))]
		switch kind := r.IntN(16); {
		case kind < pushes:
			x.push(k, p)
		case kind < 10:
			x.lower(k, p)
		case kind < 13:
			x.drop(k)
		default:
			x.pop()
		}
		x.compare(keys)
		if i%50 == 0 {
			pushes = 2 + r.IntN(8)
		}
		if i%500 == 499 {
			x.drain(keys)
		}
	}
	x.drain(keys)
}

func equal[P comparable](a, b P) bool { return a == b }

func numbers(n int) []int {
	all := make([]int, n)
	for i := range all {
		all[i] = i - n/2
	}
	return all
}

func TestCallsOfManySizes(t *testing.T) {
	for _, keys := range []int{1, 2, 3, 4, 7, 8, 20, 70} {
		for _, ranks := range []int{1, 2, 3, 10, 1000} {
			runCalls(t, numbers(keys), numbers(ranks), intLess, equal, 1500)
		}
	}
}

type point struct{ x, y int }

func TestCallsOfManyKeys(t *testing.T) {
	ranks := numbers(5)
	spots := make([]point, 9)
	pointers := []*point{nil}
	for i := range spots {
		spots[i] = point{i % 3, i / 3}
		pointers = append(pointers, &point{1, 1})
	}
	t.Run("texts", func(t *testing.T) {
		runCalls(t, []string{"", "a", "aa", "b", "ba", "\x00", "\xff", "long enough to stand elsewhere"}, ranks, intLess, equal, 3000)
	})
	t.Run("bytes", func(t *testing.T) { runCalls(t, []byte{0, 1, 127, 128, 254, 255}, ranks, intLess, equal, 3000) })
	t.Run("great numbers", func(t *testing.T) {
		runCalls(t, []int64{math.MinInt64, -1, 0, 1, math.MaxInt64}, ranks, intLess, equal, 3000)
	})
	t.Run("floats", func(t *testing.T) {
		runCalls(t, []float64{0, 1, -1, math.Inf(1), math.Inf(-1), math.SmallestNonzeroFloat64}, ranks, intLess, equal, 3000)
	})
	t.Run("bools", func(t *testing.T) { runCalls(t, []bool{false, true}, ranks, intLess, equal, 3000) })
	t.Run("one key alone", func(t *testing.T) { runCalls(t, []struct{}{{}}, ranks, intLess, equal, 3000) })
	t.Run("structs", func(t *testing.T) { runCalls(t, spots, ranks, intLess, equal, 3000) })
	t.Run("arrays", func(t *testing.T) {
		runCalls(t, [][2]string{{}, {"a"}, {"", "a"}, {"a", "a"}, {"b", "a"}}, ranks, intLess, equal, 3000)
	})
	t.Run("pointers", func(t *testing.T) { runCalls(t, pointers, ranks, intLess, equal, 3000) })
	t.Run("interfaces", func(t *testing.T) {
		runCalls(t, []any{nil, 1, int8(1), "1", 1.0, point{1, 1}, [1]int{1}}, ranks, intLess, equal, 3000)
	})
}

func TestCallsOfManyRanks(t *testing.T) {
	keys := numbers(12)
	t.Run("greater ones first", func(t *testing.T) {
		runCalls(t, keys, numbers(6), func(a, b int) bool { return a > b }, equal, 3000)
	})
	t.Run("all alike", func(t *testing.T) {
		runCalls(t, keys, numbers(6), func(a, b int) bool { return false }, equal, 3000)
	})
	t.Run("floats", func(t *testing.T) {
		runCalls(t, keys, []float32{0, float32(math.Copysign(0, -1)), 1, 0x1p-149, math.MaxFloat32, float32(math.Inf(1))},
			func(a, b float32) bool { return a < b },
			func(a, b float32) bool { return math.Float32bits(a) == math.Float32bits(b) }, 3000)
	})
	t.Run("texts", func(t *testing.T) {
		runCalls(t, keys, []string{"", "a", "b", "ab", "ba"}, func(a, b string) bool { return a < b }, equal, 3000)
	})
	t.Run("alike without being equal", func(t *testing.T) {
		runCalls(t, keys, []point{{1, 1}, {1, 2}, {1, 3}, {2, 1}, {2, 2}, {0, 7}}, func(a, b point) bool { return a.x < b.x }, equal, 3000)
	})
	t.Run("lists", func(t *testing.T) {
		runCalls(t, keys, [][]byte{{}, {1}, {1, 2}, {2}, {2, 0}}, func(a, b []byte) bool { return bytes.Compare(a, b) < 0 }, bytes.Equal, 3000)
	})
	// This less goes to where its ranks point: it may be asked for none but those that were given.
	t.Run("pointers", func(t *testing.T) {
		runCalls(t, keys, []*point{{1, 1}, {1, 2}, {2, 1}, {3, 1}, {0, 0}}, func(a, b *point) bool { return a.x < b.x }, equal, 3000)
	})
}

// call: one call that may change a heap.
type call struct {
	kind      byte
	key, rank int
}

func everyCall(keys, ranks int) []call {
	all := []call{{kind: 'o'}}
	for k := range keys {
		all = append(all, call{'d', k, 0})
		for p := range ranks {
			all = append(all, call{'p', k, p}, call{'l', k, p})
		}
	}
	return all
}

func (x *pair[K, P]) do(kind byte, k K, p P) {
	switch kind {
	case 'o':
		x.pop()
	case 'd':
		x.drop(k)
	case 'p':
		x.push(k, p)
	case 'l':
		x.lower(k, p)
	}
}

// Each list of at most four calls over three keys and three ranks, and all that can be told behind it.
func TestEveryShortListOfCalls(t *testing.T) {
	calls, keys := everyCall(3, 3), numbers(8)
	n := len(calls)
	for list := range n * n * n * n {
		x := newPair[int](t, intLess, equal)
		for rest := list; rest > 0; rest /= n {
			c := calls[rest%n]
			x.do(c.kind, c.key, c.rank)
		}
		x.compare(keys)
		x.drain(keys)
	}
}

// Six keys with all choices of three ranks, then each change of one key, that key put in again, and all popped.
func TestEveryChangeOfSixKeys(t *testing.T) {
	const n = 6
	keys := numbers(2*n + 2)
	for choice := range 729 {
		for _, c := range everyCall(n, 3) {
			x := newPair[int](t, intLess, equal)
			for k, rest := 0, choice; k < n; k, rest = k+1, rest/3 {
				x.push(k, rest%3+1)
			}
			x.do(c.kind, c.key, c.rank)
			x.compare(keys)
			x.push(c.key, 1)
			x.drain(keys)
		}
	}
}

// Each key of a heap is dropped, or lowered, and then others come whose ranks are greater:
// so what stands amiss isn't mended by the next Pop, which moves the last key.
func TestGrowthBehindAChange(t *testing.T) {
	r := rand.New(rand.NewPCG(3, 4))
	for n := range 24 {
		for changed := range n * 20 {
			x := newPair[int](t, intLess, equal)
			for k := range n {
				x.push(k, r.IntN(2*n))
			}
			if changed%2 == 0 {
				x.drop(changed / 20)
			} else {
				x.lower(changed/20, r.IntN(2*n))
			}
			for k := range n {
				x.push(n+k, 2*n+r.IntN(n))
			}
			x.drain(numbers(4 * n))
		}
	}
}
