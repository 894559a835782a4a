package spans_test

import (
	"math"
	"math/rand/v2"
	"slices"
	"testing"

	"bramble/spans"
)

// model: a set that knows no runs. Its pieces part all numbers of the type,
// each is in or out as a whole, and calls begin and end where pieces do.
type model[T spans.Whole] struct {
	pieces []spans.Run[T]
	in     []bool
}

// newModel: a piece for each of the singles, which rise and hold both ends of
// the type, and one for all that lies between two of them.
func newModel[T spans.Whole](singles []T) *model[T] {
	m := &model[T]{}
	for i, x := range singles {
		if i > 0 && x-1 != singles[i-1] {
			m.pieces = append(m.pieces, spans.Run[T]{Lo: singles[i-1] + 1, Hi: x - 1})
		}
		m.pieces = append(m.pieces, spans.Run[T]{Lo: x, Hi: x})
	}
	m.in = make([]bool, len(m.pieces))
	return m
}

func (m *model[T]) clone() *model[T] {
	return &model[T]{pieces: m.pieces, in: slices.Clone(m.in)}
}

// put makes the pieces from the i-th to the j-th be in, or out, and tells whether one changed.
func (m *model[T]) put(i, j int, in bool) bool {
	changed := false
	for k := i; k <= j; k++ {
		changed = changed || m.in[k] != in
		m.in[k] = in
	}
	return changed
}

func (m *model[T]) join(o *model[T]) bool {
	changed := false
	for k, in := range o.in {
		if in {
			changed = m.put(k, k, true) || changed
		}
	}
	return changed
}

func (m *model[T]) count(i, j int) int {
	n := 0
	for k := i; k <= j; k++ {
		if m.in[k] {
			n++
		}
	}
	return n
}

func (m *model[T]) next(x T) (T, bool) {
	for k, p := range m.pieces {
		if m.in[k] && p.Hi >= x {
			if p.Lo > x {
				return p.Lo, true
			}
			return x, true
		}
	}
	return 0, false
}

func (m *model[T]) runs() []spans.Run[T] {
	var all []spans.Run[T]
	open := false
	for k, p := range m.pieces {
		switch {
		case m.in[k] && open:
			all[len(all)-1].Hi = p.Hi
		case m.in[k]:
			all = append(all, p)
		}
		open = m.in[k]
	}
	return all
}

// compare holds the answers of all calls that change nothing against the model's.
func compare[T spans.Whole](t *testing.T, s *spans.Set[T], m *model[T]) {
	t.Helper()
	want := m.runs()
	if got := s.Runs(); !slices.Equal(got, want) {
		t.Fatalf("Runs: %v, not %v", got, want)
	}
	if got := slices.Collect(s.All()); !slices.Equal(got, want) {
		t.Fatalf("All: %v, not %v", got, want)
	}
	if s.Len() != len(want) {
		t.Fatalf("Len: %d, not %d", s.Len(), len(want))
	}
	for k, p := range m.pieces {
		for _, x := range []T{p.Lo, p.Hi} {
			if s.Has(x) != m.in[k] {
				t.Fatalf("Has(%v): %v, runs %v", x, s.Has(x), want)
			}
			y, ok := m.next(x)
			if gy, gok := s.Next(x); gy != y || gok != ok {
				t.Fatalf("Next(%v): %v, %v, not %v, %v", x, gy, gok, y, ok)
			}
		}
	}
}

// compareRun does so for the calls that take the run from the i-th to the j-th piece; if j is below i, it has no numbers.
func compareRun[T spans.Whole](t *testing.T, s *spans.Set[T], m *model[T], i, j int) {
	t.Helper()
	lo, hi := m.pieces[i].Lo, m.pieces[j].Hi
	n := m.count(i, j)
	if got, want := s.Holds(lo, hi), n == max(0, j-i+1); got != want {
		t.Fatalf("Holds(%v, %v): %v, runs %v", lo, hi, got, m.runs())
	}
	if got, want := s.Meets(lo, hi), n > 0; got != want {
		t.Fatalf("Meets(%v, %v): %v, runs %v", lo, hi, got, m.runs())
	}
}

// edges: k numbers at both ends of a type, and around the middle.
func edges[T spans.Whole](least, middle, greatest T, k int) []T {
	var all []T
	for i := range k {
		all = append(all, least+T(i), middle+T(i), greatest-T(i))
	}
	slices.Sort(all)
	return slices.Compact(all)
}

// runCalls makes calls over three sets, the same ones in every run, and holds each answer against the models'.
func runCalls[T spans.Whole](t *testing.T, singles []T, calls int) {
	r := rand.New(rand.NewPCG(2, uint64(len(singles))))
	var sets [3]*spans.Set[T]
	var models [3]*model[T]
	for i := range sets {
		sets[i], models[i] = spans.New[T](), newModel(singles)
		compare(t, sets[i], models[i])
	}
	for range calls {
		a, b := r.IntN(3), r.IntN(3)
		s, m := sets[a], models[a]
		i := r.IntN(len(m.pieces))
		j := min(i+r.IntN(7)-1, len(m.pieces)-1)
		if r.IntN(8) == 0 {
			j = r.IntN(len(m.pieces))
		}
		j = max(j, 0)
		lo, hi := m.pieces[i].Lo, m.pieces[j].Hi
		got, want := false, false
		switch kind := r.IntN(16); {
		case kind < 7:
			got, want = s.Add(lo, hi), m.put(i, j, true)
		case kind < 14:
			got, want = s.Cut(lo, hi), m.put(i, j, false)
		case kind == 14:
			got, want = s.Join(sets[b]), m.join(models[b])
		default:
			sets[a], models[a] = sets[b].Clone(), models[b].clone()
		}
		if got != want {
			t.Fatalf("a change between %v and %v: %v, not %v; runs %v", lo, hi, got, want, m.runs())
		}
		for k := range sets {
			compare(t, sets[k], models[k])
			compareRun(t, sets[k], models[k], i, j)
			if same := slices.Equal(models[k].in, models[a].in); sets[k].Same(sets[a]) != same {
				t.Fatalf("Same: %v of %v and %v", !same, models[k].runs(), models[a].runs())
			}
		}
	}
}

type shortNumber int8
type wideNumber int

func TestCallsOfAllTypes(t *testing.T) {
	t.Run("int", func(t *testing.T) { runCalls(t, edges[int](math.MinInt, -4, math.MaxInt, 9), 3000) })
	t.Run("int8", func(t *testing.T) { runCalls(t, edges[int8](-128, -4, 127, 9), 3000) })
	t.Run("int16", func(t *testing.T) { runCalls(t, edges[int16](-32768, -4, 32767, 9), 3000) })
	t.Run("int32", func(t *testing.T) { runCalls(t, edges[int32](math.MinInt32, -4, math.MaxInt32, 9), 3000) })
	t.Run("uint8", func(t *testing.T) { runCalls(t, edges[uint8](0, 124, 255, 9), 3000) })
	t.Run("uint16", func(t *testing.T) { runCalls(t, edges[uint16](0, 32764, 65535, 9), 3000) })
	t.Run("uint32", func(t *testing.T) { runCalls(t, edges[uint32](0, math.MaxInt32-4, math.MaxUint32, 9), 3000) })
	t.Run("shortNumber", func(t *testing.T) { runCalls(t, edges[shortNumber](-128, -4, 127, 9), 3000) })
	t.Run("wideNumber", func(t *testing.T) { runCalls(t, edges[wideNumber](math.MinInt, -4, math.MaxInt, 9), 3000) })
}

func TestCallsOverAllOfAShortType(t *testing.T) {
	var bytes []uint8
	var shorts []shortNumber
	for i := range 256 {
		bytes = append(bytes, uint8(i))
		shorts = append(shorts, shortNumber(i-128))
	}
	runCalls(t, bytes, 2000)
	runCalls(t, shorts, 2000)
}

// setOf: the set and the model in which just the pieces are in whose bits the mask has.
func setOf[T spans.Whole](singles []T, mask int) (*spans.Set[T], *model[T]) {
	s, m := spans.New[T](), newModel(singles)
	for k, p := range m.pieces {
		if mask>>k&1 == 1 {
			s.Add(p.Lo, p.Hi)
			m.in[k] = true
		}
	}
	return s, m
}

// everyChange tries each Add and each Cut between pieces on each set of pieces.
func everyChange[T spans.Whole](t *testing.T, singles []T) {
	n := len(newModel(singles).pieces)
	for mask := range 1 << n {
		for i := range n {
			for j := range n {
				for _, in := range []bool{true, false} {
					s, m := setOf(singles, mask)
					compareRun(t, s, m, i, j)
					lo, hi := m.pieces[i].Lo, m.pieces[j].Hi
					change := s.Cut
					if in {
						change = s.Add
					}
					if got, want := change(lo, hi), m.put(i, j, in); got != want {
						t.Fatalf("put %v from %v to %v: %v, not %v; runs %v", in, lo, hi, got, want, m.runs())
					}
					compare(t, s, m)
				}
			}
		}
	}
}

// everyJoin joins each set of pieces with each.
func everyJoin[T spans.Whole](t *testing.T, singles []T) {
	n := len(newModel(singles).pieces)
	for one := range 1 << n {
		for other := range 1 << n {
			s, m := setOf(singles, one)
			o, om := setOf(singles, other)
			if s.Same(o) != (one == other) || o.Same(s) != (one == other) {
				t.Fatalf("Same: %v and %v", m.runs(), om.runs())
			}
			if got, want := s.Join(o), m.join(om); got != want {
				t.Fatalf("Join: %v, not %v, runs %v", got, want, m.runs())
			}
			compare(t, s, m)
			compare(t, o, om)
		}
	}
}

func TestEveryChangeOfAFewNumbers(t *testing.T) {
	everyChange(t, []uint8{0, 1, 2, 253, 254, 255})
	everyChange(t, []shortNumber{-128, -127, 0, 126, 127})
	everyChange(t, []int{math.MinInt, math.MinInt + 1, 0, math.MaxInt - 1, math.MaxInt})
}

func TestEveryJoinOfAFewNumbers(t *testing.T) {
	everyJoin(t, []uint8{0, 1, 2, 254, 255})
	everyJoin(t, []shortNumber{-128, -127, 126, 127})
	everyJoin(t, []int{math.MinInt, math.MinInt + 1, math.MaxInt - 1, math.MaxInt})
}
