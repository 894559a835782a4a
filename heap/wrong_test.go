package heap_test

import (
	"math"
	"math/rand/v2"
	"slices"
	"testing"

	"bramble/heap"
)

// stamped: a rank that can be told from every other one, whatever less says of it.
type stamped struct {
	rank  float64
	stamp int
}

// wrongLess: an order that answers against itself, or changes its answers.
// To change them it is told how often it was asked.
type wrongLess struct {
	name string
	less func(a, b stamped, asked int) bool
}

func wrongLesses() []wrongLess {
	r := rand.New(rand.NewPCG(3, 2))
	return []wrongLess{
		{"always", func(a, b stamped, _ int) bool { return true }},
		{"or alike", func(a, b stamped, _ int) bool { return a.rank <= b.rank }},
		{"unlike", func(a, b stamped, _ int) bool { return a.rank != b.rank }},
		{"in a circle", func(a, b stamped, _ int) bool { return math.Mod(b.rank-a.rank+9, 3) == 1 }},
		{"with NaN", func(a, b stamped, _ int) bool { return math.Sqrt(a.rank-3) < math.Sqrt(b.rank-3) }},
		{"far off", func(a, b stamped, _ int) bool { return a.rank+2 < b.rank }},
		{"by turns", func(a, b stamped, asked int) bool { return asked%2 == 0 }},
		{"two by turns", func(a, b stamped, asked int) bool { return asked%4 < 2 }},
		{"turned round", func(a, b stamped, asked int) bool { return (a.rank < b.rank) == (asked/40%2 == 0) }},
		{"no more at last", func(a, b stamped, asked int) bool { return asked < 300 && a.rank < b.rank }},
		{"by chance", func(a, b stamped, _ int) bool { return r.IntN(2) == 0 }},
		{"seldom wrong", func(a, b stamped, _ int) bool { return (a.rank < b.rank) != (r.IntN(20) == 0) }},
	}
}

// ledger: a heap over any less, and for each key that is in the ranks that it was given since.
type ledger struct {
	t      *testing.T
	h      *heap.Heap[string, stamped]
	given  map[string][]stamped
	asked  int // during the call that is made just now
	total  int
	stamps int
}

func newLedger(t *testing.T, less func(a, b stamped, asked int) bool) *ledger {
	l := &ledger{t: t, given: map[string][]stamped{}}
	l.h = heap.New[string](func(a, b stamped) bool {
		l.asked++
		l.total++
		if l.asked > 1000 {
			t.Fatal("a call seems not to end")
		}
		if a.stamp == 0 || b.stamp == 0 {
			t.Fatal("less was asked for a rank that was not given")
		}
		return less(a, b, l.total)
	})
	return l
}

func (l *ledger) rank(rank int) stamped {
	l.stamps++
	return stamped{float64(rank), l.stamps}
}

func (l *ledger) push(k string, rank int) {
	p, had := l.rank(rank), len(l.given[k]) > 0
	want(l.t, "Push", l.h.Push(k, p), !had)
	if !had {
		l.given[k] = []stamped{p}
	}
}

func (l *ledger) lower(k string, rank int) {
	p, had := l.rank(rank), len(l.given[k]) > 0
	if l.h.Lower(k, p) {
		want(l.t, "Lower of a key that is in", true, had)
		l.given[k] = append(l.given[k], p)
	}
}

func (l *ledger) drop(k string) {
	want(l.t, "Drop", l.h.Drop(k), len(l.given[k]) > 0)
	delete(l.given, k)
}

// told: a key and a rank that Peek or Pop answered: one that is in, if there is one.
func (l *ledger) told(what, k string, p stamped, ok bool) {
	l.t.Helper()
	if !ok {
		if len(l.given) > 0 || k != "" || p != (stamped{}) {
			l.t.Fatalf("%s: %v, %v, %v, given: %v", what, k, p, ok, l.given)
		}
		return
	}
	if !slices.Contains(l.given[k], p) {
		l.t.Fatalf("%s: %v, %v, given: %v", what, k, p, l.given)
	}
}

func (l *ledger) pop() {
	k, p, ok := l.h.Pop()
	l.told("Pop", k, p, ok)
	delete(l.given, k)
}

func (l *ledger) compare(keys []string) {
	l.t.Helper()
	wantLen(l.t, l.h, len(l.given))
	k, p, ok := l.h.Peek()
	l.told("Peek", k, p, ok)
	for _, k := range keys {
		p, ok := l.h.Get(k)
		if ok != (len(l.given[k]) > 0) || ok && !slices.Contains(l.given[k], p) || !ok && p != (stamped{}) {
			l.t.Fatalf("Get(%v): %v, %v, given: %v", k, p, ok, l.given)
		}
	}
}

// runWrong makes mixtures of calls and at last takes all keys out.
func runWrong(t *testing.T, less func(a, b stamped, asked int) bool, keys []string) {
	l := newLedger(t, less)
	r := rand.New(rand.NewPCG(3, uint64(len(keys))))
	for range 2000 {
		l.asked = 0
		k, rank := keys[r.IntN(len(keys))], r.IntN(8)
		switch kind := r.IntN(12); {
		case kind < 6:
			l.push(k, rank)
		case kind < 9:
			l.lower(k, rank)
		case kind < 10:
			l.drop(k)
		default:
			l.pop()
		}
		l.compare(keys)
	}
	for _, k := range keys {
		l.asked = 0
		l.push(k, r.IntN(8))
	}
	for range keys {
		l.asked = 0
		l.pop()
		l.compare(keys)
	}
	if len(l.given) > 0 {
		t.Errorf("not all came out: %v", l.given)
	}
	l.pop()
}

func TestLessThatIsWrong(t *testing.T) {
	for _, wrong := range wrongLesses() {
		t.Run(wrong.name, func(t *testing.T) {
			for _, n := range []int{1, 2, 3, 6, 25} {
				keys := make([]string, n)
				for i := range keys {
					keys[i] = string(rune('a' + i))
				}
				runWrong(t, wrong.less, keys)
			}
		})
	}
}

// A less may change its mind for good while keys are in: those that are there come out all the same.
func TestLessThatTurnsRound(t *testing.T) {
	for n := range 40 {
		down := false
		h := heap.New[int](func(a, b int) bool { return (a < b) != down })
		for i := range n {
			h.Push(i, i*7%13)
		}
		down = true
		out := map[int]int{}
		for range n {
			k, p, ok := h.Pop()
			out[k]++
			if !ok || k < 0 || k >= n || p != k*7%13 || out[k] > 1 {
				t.Fatalf("Pop of %d: %d, %d, %v", n, k, p, ok)
			}
		}
		wantEmpty(t, h, 0, n)
	}
}
