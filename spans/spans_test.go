package spans_test

import (
	"math"
	"slices"
	"testing"

	"bramble/spans"
)

// made: a set of the runs, which may touch and overlap.
func made[T spans.Whole](runs ...spans.Run[T]) *spans.Set[T] {
	s := spans.New[T]()
	for _, r := range runs {
		s.Add(r.Lo, r.Hi)
	}
	return s
}

func wantRuns[T spans.Whole](t *testing.T, s *spans.Set[T], want ...spans.Run[T]) {
	t.Helper()
	if got := s.Runs(); !slices.Equal(got, want) {
		t.Errorf("Runs: %v, not %v", got, want)
	}
	if s.Len() != len(want) {
		t.Errorf("Len: %d, not %d", s.Len(), len(want))
	}
}

func want(t *testing.T, what string, got, want bool) {
	t.Helper()
	if got != want {
		t.Errorf("%s: %v, not %v", what, got, want)
	}
}

func wantNext[T spans.Whole](t *testing.T, s *spans.Set[T], x, want T, wantOk bool) {
	t.Helper()
	if got, ok := s.Next(x); got != want || ok != wantOk {
		t.Errorf("Next(%v): %v, %v, not %v, %v", x, got, ok, want, wantOk)
	}
}

type ints = spans.Run[int]
type bytes = spans.Run[uint8]

func TestExamplesOverInt(t *testing.T) {
	s := spans.New[int]()
	wantRuns(t, s)
	want(t, "Add(3, 5)", s.Add(3, 5), true)
	want(t, "Add(6, 6)", s.Add(6, 6), true)
	wantRuns(t, s, ints{3, 6})
	want(t, "Add(4, 6)", s.Add(4, 6), false)
	want(t, "Add(9, 8)", s.Add(9, 8), false)
	want(t, "Cut(4, 4)", s.Cut(4, 4), true)
	wantRuns(t, s, ints{3, 3}, ints{5, 6})
	wantNext(t, s, 4, 5, true)
	wantNext(t, s, 7, 0, false)
	want(t, "Holds(5, 6)", s.Holds(5, 6), true)
	want(t, "Holds(3, 5)", s.Holds(3, 5), false)
	want(t, "Holds(1, 0)", s.Holds(1, 0), true)
	want(t, "Meets(0, 3)", s.Meets(0, 3), true)
}

func TestExamplesOverBytes(t *testing.T) {
	s := spans.New[uint8]()
	want(t, "Add(255, 255)", s.Add(255, 255), true)
	want(t, "Add(0, 0)", s.Add(0, 0), true)
	wantRuns(t, s, bytes{0, 0}, bytes{255, 255})
	want(t, "Add(1, 254)", s.Add(1, 254), true)
	wantRuns(t, s, bytes{0, 255})
	want(t, "Cut(0, 254)", s.Cut(0, 254), true)
	wantRuns(t, s, bytes{255, 255})
}

func TestEmptySet(t *testing.T) {
	s, o := spans.New[int](), spans.New[int]()
	want(t, "Has", s.Has(0), false)
	want(t, "Holds of no numbers", s.Holds(1, 0), true)
	want(t, "Holds", s.Holds(0, 0), false)
	want(t, "Meets", s.Meets(math.MinInt, math.MaxInt), false)
	want(t, "Cut", s.Cut(math.MinInt, math.MaxInt), false)
	want(t, "Join", s.Join(o), false)
	want(t, "Join with itself", s.Join(s), false)
	want(t, "Same", s.Same(o), true)
	want(t, "Same as its clone", s.Same(s.Clone()), true)
	wantNext(t, s, math.MinInt, 0, false)
	for r := range s.All() {
		t.Errorf("All gives %v", r)
	}
	wantRuns(t, s)
}

func TestRunsWithoutNumbers(t *testing.T) {
	s := made(ints{3, 3}, ints{5, 6})
	for _, r := range []ints{{1, 0}, {4, 3}, {6, 5}, {5, 3}, {9, 2}, {math.MaxInt, math.MinInt}} {
		want(t, "Add", s.Add(r.Lo, r.Hi), false)
		want(t, "Cut", s.Cut(r.Lo, r.Hi), false)
		want(t, "Holds", s.Holds(r.Lo, r.Hi), true)
		want(t, "Meets", s.Meets(r.Lo, r.Hi), false)
		wantRuns(t, s, ints{3, 3}, ints{5, 6})
	}
}

func TestAddBesideOverAndAroundRuns(t *testing.T) {
	for _, c := range []struct {
		add  ints
		want []ints
	}{
		{ints{0, 2}, []ints{{0, 2}, {10, 12}, {20, 22}, {30, 32}}},
		{ints{0, 8}, []ints{{0, 8}, {10, 12}, {20, 22}, {30, 32}}},
		{ints{0, 9}, []ints{{0, 12}, {20, 22}, {30, 32}}},
		{ints{13, 13}, []ints{{10, 13}, {20, 22}, {30, 32}}},
		{ints{14, 18}, []ints{{10, 12}, {14, 18}, {20, 22}, {30, 32}}},
		{ints{13, 19}, []ints{{10, 22}, {30, 32}}},
		{ints{11, 15}, []ints{{10, 15}, {20, 22}, {30, 32}}},
		{ints{5, 11}, []ints{{5, 12}, {20, 22}, {30, 32}}},
		{ints{9, 33}, []ints{{9, 33}}},
		{ints{11, 31}, []ints{{10, 32}}},
		{ints{20, 30}, []ints{{10, 12}, {20, 32}}},
		{ints{33, 33}, []ints{{10, 12}, {20, 22}, {30, 33}}},
		{ints{34, 40}, []ints{{10, 12}, {20, 22}, {30, 32}, {34, 40}}},
	} {
		s := made(ints{20, 22}, ints{10, 12}, ints{30, 32})
		want(t, "Add", s.Add(c.add.Lo, c.add.Hi), true)
		wantRuns(t, s, c.want...)
		want(t, "Add once more", s.Add(c.add.Lo, c.add.Hi), false)
		wantRuns(t, s, c.want...)
	}
	s := made(ints{20, 22}, ints{10, 12}, ints{30, 32})
	for _, r := range []ints{{10, 12}, {10, 10}, {11, 11}, {21, 22}, {32, 32}} {
		want(t, "Add of what is in", s.Add(r.Lo, r.Hi), false)
	}
	wantRuns(t, s, ints{10, 12}, ints{20, 22}, ints{30, 32})
}

func TestCutInsideAtTheEndsAndOverSeveral(t *testing.T) {
	for _, c := range []struct {
		cut  ints
		want []ints
	}{
		{ints{12, 13}, []ints{{10, 11}, {14, 15}, {20, 25}, {30, 35}}},
		{ints{10, 10}, []ints{{11, 15}, {20, 25}, {30, 35}}},
		{ints{15, 15}, []ints{{10, 14}, {20, 25}, {30, 35}}},
		{ints{10, 15}, []ints{{20, 25}, {30, 35}}},
		{ints{9, 16}, []ints{{20, 25}, {30, 35}}},
		{ints{15, 20}, []ints{{10, 14}, {21, 25}, {30, 35}}},
		{ints{16, 29}, []ints{{10, 15}, {30, 35}}},
		{ints{12, 33}, []ints{{10, 11}, {34, 35}}},
		{ints{0, 30}, []ints{{31, 35}}},
		{ints{25, 99}, []ints{{10, 15}, {20, 24}}},
		{ints{math.MinInt, math.MaxInt}, nil},
	} {
		s := made(ints{10, 15}, ints{20, 25}, ints{30, 35})
		want(t, "Cut", s.Cut(c.cut.Lo, c.cut.Hi), true)
		wantRuns(t, s, c.want...)
		want(t, "Cut once more", s.Cut(c.cut.Lo, c.cut.Hi), false)
		wantRuns(t, s, c.want...)
	}
	s := made(ints{10, 15}, ints{20, 25})
	for _, r := range []ints{{0, 9}, {16, 19}, {17, 18}, {26, 26}, {26, math.MaxInt}} {
		want(t, "Cut of what isn't in", s.Cut(r.Lo, r.Hi), false)
	}
	wantRuns(t, s, ints{10, 15}, ints{20, 25})
}

func TestEndsOfInt(t *testing.T) {
	s := made(ints{math.MaxInt, math.MaxInt}, ints{math.MinInt, math.MinInt})
	wantRuns(t, s, ints{math.MinInt, math.MinInt}, ints{math.MaxInt, math.MaxInt})
	wantNext(t, s, math.MinInt, math.MinInt, true)
	wantNext(t, s, math.MinInt+1, math.MaxInt, true)
	wantNext(t, s, math.MaxInt, math.MaxInt, true)
	want(t, "Holds of all", s.Holds(math.MinInt, math.MaxInt), false)
	want(t, "Meets between", s.Meets(math.MinInt+1, math.MaxInt-1), false)
	want(t, "Add", s.Add(math.MinInt+1, math.MaxInt-1), true)
	wantRuns(t, s, ints{math.MinInt, math.MaxInt})
	want(t, "Holds of all", s.Holds(math.MinInt, math.MaxInt), true)
	want(t, "Cut", s.Cut(math.MaxInt, math.MaxInt), true)
	want(t, "Cut", s.Cut(math.MinInt, math.MinInt), true)
	wantRuns(t, s, ints{math.MinInt + 1, math.MaxInt - 1})
	wantNext(t, s, math.MaxInt, 0, false)
}

func TestJoin(t *testing.T) {
	s, o := made(ints{1, 3}, ints{8, 9}), made(ints{4, 5}, ints{9, 12}, ints{20, 20})
	want(t, "Join with itself", s.Join(s), false)
	wantRuns(t, s, ints{1, 3}, ints{8, 9})
	want(t, "Join", s.Join(o), true)
	wantRuns(t, s, ints{1, 5}, ints{8, 12}, ints{20, 20})
	wantRuns(t, o, ints{4, 5}, ints{9, 12}, ints{20, 20})
	want(t, "Join of what is in", s.Join(o), false)
	want(t, "Join with none", s.Join(spans.New[int]()), false)
	want(t, "Same", s.Same(o), false)
	want(t, "Join the other way", o.Join(s), true)
	want(t, "Same", s.Same(o) && o.Same(s), true)
}

func TestManyRuns(t *testing.T) {
	const n = 20000
	s, o := spans.New[int32](), spans.New[int32]()
	for i := range int32(n) {
		s.Add(4*i, 4*i)
		o.Add(4*i+2, 4*i+2)
	}
	if s.Len() != n || o.Len() != n || !s.Join(o) || s.Len() != 2*n {
		t.Errorf("Len: %d", s.Len())
	}
	if !s.Cut(1, 4*n-3) || s.Len() != 2 || !s.Add(0, 4*n) || s.Len() != 1 {
		t.Errorf("Len: %d", s.Len())
	}
}
