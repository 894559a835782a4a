package slots_test

import (
	"math"
	"math/rand/v2"
	"reflect"
	"slices"
	"testing"

	"bramble/slots"
)

// row: a number and the thing that stands there.
type row[T any] struct {
	number int
	thing  T
}

// model: the chapter's words over one list with all places, the place 0 aside.
type model[T any] struct {
	places []*T
}

func newModel[T any](most int) *model[T] {
	if most < 0 {
		most = 0
	}
	if most > 65536 {
		most = 65536
	}
	return &model[T]{places: make([]*T, most+1)}
}

func (m *model[T]) isPlace(i int) bool { return i >= 1 && i < len(m.places) }

func (m *model[T]) free() int {
	for i := range m.places {
		if i > 0 && m.places[i] == nil {
			return i
		}
	}
	return 0
}

func (m *model[T]) put(x T) (int, bool) {
	i := m.free()
	if i == 0 {
		return 0, false
	}
	m.places[i] = &x
	return i, true
}

func (m *model[T]) putAt(i int, x T) bool {
	if !m.isPlace(i) || m.places[i] != nil {
		return false
	}
	m.places[i] = &x
	return true
}

func (m *model[T]) at(i int) (x T, ok bool) {
	if !m.isPlace(i) || m.places[i] == nil {
		return x, false
	}
	return *m.places[i], true
}

func (m *model[T]) set(i int, x T) bool {
	_, ok := m.at(i)
	if ok {
		m.places[i] = &x
	}
	return ok
}

func (m *model[T]) drop(i int) (x T, ok bool) {
	x, ok = m.at(i)
	if ok {
		m.places[i] = nil
	}
	return x, ok
}

func (m *model[T]) all() []row[T] {
	var rows []row[T]
	for i, x := range m.places {
		if x != nil {
			rows = append(rows, row[T]{i, *x})
		}
	}
	return rows
}

func (m *model[T]) next(i int) int {
	for _, r := range m.all() {
		if r.number >= i {
			return r.number
		}
	}
	return 0
}

// pair: a table and its model, to which the same is done.
type pair[T any] struct {
	t     *testing.T
	table *slots.Table[T]
	m     *model[T]
	same  func(a, b T) bool
}

func newPair[T any](t *testing.T, most int, same func(a, b T) bool) *pair[T] {
	return &pair[T]{t, slots.New[T](most), newModel[T](most), same}
}

func (p *pair[T]) put(x T) {
	p.t.Helper()
	i, ok := p.table.Put(x)
	if wi, wok := p.m.put(x); i != wi || ok != wok {
		p.t.Fatalf("Put(%v): %d, %v, not %d, %v; there is: %v", x, i, ok, wi, wok, p.m.all())
	}
}

func (p *pair[T]) putAt(i int, x T) {
	p.t.Helper()
	ok := p.table.PutAt(i, x)
	if want := p.m.putAt(i, x); ok != want {
		p.t.Fatalf("PutAt(%d, %v): %v, not %v; there is: %v", i, x, ok, want, p.m.all())
	}
}

func (p *pair[T]) set(i int, x T) {
	p.t.Helper()
	ok := p.table.Set(i, x)
	if want := p.m.set(i, x); ok != want {
		p.t.Fatalf("Set(%d, %v): %v, not %v; there is: %v", i, x, ok, want, p.m.all())
	}
}

func (p *pair[T]) drop(i int) {
	p.t.Helper()
	x, ok := p.table.Drop(i)
	if wx, wok := p.m.drop(i); !p.same(x, wx) || ok != wok {
		p.t.Fatalf("Drop(%d): %v, %v, not %v, %v; left: %v", i, x, ok, wx, wok, p.m.all())
	}
}

// compare holds what the calls that change nothing answer against the model's answers.
func (p *pair[T]) compare() {
	p.t.Helper()
	rows := p.m.all()
	if got := p.table.Len(); got != len(rows) {
		p.t.Fatalf("Len: %d; there is: %v", got, rows)
	}
	if got, want := p.table.Free(), p.m.free(); got != want {
		p.t.Fatalf("Free: %d, not %d; there is: %v", got, want, rows)
	}
	for _, i := range asked(len(p.m.places)) {
		x, ok := p.table.At(i)
		if wx, wok := p.m.at(i); !p.same(x, wx) || ok != wok {
			p.t.Fatalf("At(%d): %v, %v, not %v, %v; there is: %v", i, x, ok, wx, wok, rows)
		}
		if got, want := p.table.Next(i), p.m.next(i); got != want {
			p.t.Fatalf("Next(%d): %d, not %d; there is: %v", i, got, want, rows)
		}
	}
	wantRows(p.t, p.table.All(), rows, p.same)
}

// asked: the numbers around so many places, and those at the far ends.
func asked(places int) []int {
	all := []int{math.MinInt, math.MinInt + 1, -65536, -1, 0, 65535, 65536, 65537, 1 << 32, math.MaxInt - 1, math.MaxInt}
	for i := range places + 2 {
		all = append(all, i)
	}
	return all
}

// runCalls makes mixtures of calls, the same ones in every run: some that let the table fill, some that let it empty.
func runCalls[T any](t *testing.T, most int, things []T, same func(a, b T) bool, calls int) {
	t.Helper()
	r := rand.New(rand.NewPCG(4, uint64(most*1000+len(things))))
	p := newPair(t, most, same)
	p.compare()
	puts := 6
	for i := range calls {
		x, at := things[r.IntN(len(things))], r.IntN(max(most, 0)+4)-1
		switch kind := r.IntN(16); {
		case kind < puts/2:
			p.put(x)
		case kind < puts:
			p.putAt(at, x)
		case kind < puts+2:
			p.set(at, x)
		default:
			p.drop(at)
		}
		p.compare()
		if i%60 == 0 {
			puts = 2 + r.IntN(12)
		}
	}
}

func equal[T comparable](a, b T) bool { return a == b }

func deep[T any](a, b T) bool { return reflect.DeepEqual(a, b) }

func TestCallsOfManySizes(t *testing.T) {
	for _, most := range []int{-5, -1, 0, 1, 2, 3, 4, 5, 8, 9, 30} {
		runCalls(t, most, []int{0, 1, 2, 3, -7}, equal, 3000)
	}
}

type point struct{ x, y int }

type named struct {
	name  string
	edges []int
}

func TestCallsOfManyThings(t *testing.T) {
	const most, calls = 6, 3000
	nan := math.NaN()
	t.Run("texts", func(t *testing.T) {
		runCalls(t, most, []string{"", "a", "b", "\x00", "\xff", "long enough to stand elsewhere"}, equal, calls)
	})
	t.Run("bools", func(t *testing.T) { runCalls(t, most, []bool{false, true}, equal, calls) })
	t.Run("bytes", func(t *testing.T) { runCalls(t, most, []byte{0, 1, 128, 255}, equal, calls) })
	t.Run("without room", func(t *testing.T) { runCalls(t, most, []struct{}{{}}, equal, calls) })
	t.Run("structs", func(t *testing.T) { runCalls(t, most, []point{{}, {1, 0}, {0, 1}, {1, 1}}, equal, calls) })
	t.Run("arrays", func(t *testing.T) { runCalls(t, most, [][2]string{{}, {"a"}, {"", "a"}}, equal, calls) })
	t.Run("structs that == can't compare", func(t *testing.T) {
		runCalls(t, most, []named{{}, {"a", nil}, {"a", []int{1}}, {"b", []int{1, 2}}}, deep, calls)
	})
	t.Run("lists", func(t *testing.T) { runCalls(t, most, [][]int{nil, {1}, {1, 2}, {3}}, deep, calls) })
	t.Run("maps", func(t *testing.T) { runCalls(t, most, []map[int]int{nil, {1: 2}, {2: 1}}, deep, calls) })
	t.Run("pointers", func(t *testing.T) {
		runCalls(t, most, []*point{nil, {1, 1}, {1, 1}, {2, 1}}, equal, calls)
	})
	t.Run("interfaces", func(t *testing.T) {
		runCalls(t, most, []any{nil, 1, int8(1), "1", point{1, 1}, []int{1}}, deep, calls)
	})
	t.Run("floats", func(t *testing.T) {
		runCalls(t, most, []float64{0, math.Copysign(0, -1), nan, 1, math.Inf(1)},
			func(a, b float64) bool { return math.Float64bits(a) == math.Float64bits(b) }, calls)
	})
	t.Run("functions", func(t *testing.T) {
		runCalls(t, most, []func() int{nil, func() int { return 1 }, func() int { return 2 }},
			func(a, b func() int) bool { return (a == nil) == (b == nil) && (a == nil || a() == b()) }, calls)
	})
}

// call: one call that may change a table.
type call struct {
	kind   byte
	number int
}

func everyCall(most int) []call {
	all := []call{{kind: 'p'}}
	for i := 0; i <= most+1; i++ {
		all = append(all, call{'a', i}, call{'s', i}, call{'d', i})
	}
	return all
}

func (p *pair[T]) do(c call, x T) {
	p.t.Helper()
	switch c.kind {
	case 'p':
		p.put(x)
	case 'a':
		p.putAt(c.number, x)
	case 's':
		p.set(c.number, x)
	case 'd':
		p.drop(c.number)
	}
}

// Each list of four calls over at most three places, and all that can be told behind it; then the table is filled.
// (Some calls change nothing, so shorter lists are among them.)
func TestEveryShortListOfCalls(t *testing.T) {
	for most := range 4 {
		calls := everyCall(most)
		n := len(calls)
		for list := range n * n * n * n {
			p := newPair[int](t, most, equal)
			for turn, rest := 0, list; turn < 4; turn, rest = turn+1, rest/n {
				p.do(calls[rest%n], turn+1)
			}
			p.compare()
			for i := range most + 1 {
				p.put(i + 5)
			}
			p.compare()
		}
	}
}

// Each list of six calls that take and free places of three: the number that Put gives and that Free tells.
func TestEveryMixtureOfTakingAndFreeing(t *testing.T) {
	const most = 3
	calls := slices.DeleteFunc(everyCall(most), func(c call) bool {
		return c.kind == 's' || c.kind != 'p' && (c.number < 1 || c.number > most)
	})
	n := len(calls)
	for list := range n * n * n * n * n * n {
		p := newPair[int](t, most, equal)
		for turn, rest := 0, list; turn < 6; turn, rest = turn+1, rest/n {
			p.do(calls[rest%n], turn)
			if got, want := p.table.Free(), p.m.free(); got != want {
				t.Fatalf("Free: %d, not %d; there is: %v", got, want, p.m.all())
			}
		}
		p.put(list)
	}
}

// All orders in which the places of a full table are freed, and in which they are given again.
func TestEveryOrderOfDrops(t *testing.T) {
	const most = 5
	for _, order := range orders(most) {
		for dropped := range most + 1 {
			p := newPair[string](t, most, equal)
			for i := range most {
				p.put(string(rune('a' + i)))
			}
			for _, i := range order[:dropped] {
				p.drop(i)
				p.compare()
			}
			for range dropped + 1 {
				p.put("x")
				p.compare()
			}
		}
	}
}

// orders: all orders of the numbers from 1 to n.
func orders(n int) [][]int {
	if n == 0 {
		return [][]int{nil}
	}
	var all [][]int
	for _, o := range orders(n - 1) {
		for at := range n {
			all = append(all, slices.Insert(slices.Clone(o), at, n))
		}
	}
	return all
}
