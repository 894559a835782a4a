package spans_test

import (
	"iter"
	"math"
	"slices"
	"testing"

	"bramble/spans"
)

// changes: what may be done to a set of the runs {10 12} {20 22} {30 32}; each leaves it another one.
func changes() map[string]func(s *spans.Set[int]) {
	return map[string]func(s *spans.Set[int]){
		"Add ahead":      func(s *spans.Set[int]) { s.Add(0, 1) },
		"Add beside":     func(s *spans.Set[int]) { s.Add(13, 13) },
		"Add between":    func(s *spans.Set[int]) { s.Add(15, 15) },
		"Add over two":   func(s *spans.Set[int]) { s.Add(12, 20) },
		"Add over all":   func(s *spans.Set[int]) { s.Add(math.MinInt, math.MaxInt) },
		"Add behind":     func(s *spans.Set[int]) { s.Add(40, 40) },
		"Cut inside":     func(s *spans.Set[int]) { s.Cut(11, 11) },
		"Cut at an end":  func(s *spans.Set[int]) { s.Cut(10, 10) },
		"Cut one":        func(s *spans.Set[int]) { s.Cut(10, 12) },
		"Cut over two":   func(s *spans.Set[int]) { s.Cut(12, 20) },
		"Cut all":        func(s *spans.Set[int]) { s.Cut(math.MinInt, math.MaxInt) },
		"Join":           func(s *spans.Set[int]) { s.Join(made(ints{11, 21}, ints{50, 51})) },
		"Cut, Add again": func(s *spans.Set[int]) { s.Cut(0, 99); s.Add(1, 1); s.Add(3, 3); s.Add(5, 5) },
	}
}

func three() *spans.Set[int] { return made(ints{10, 12}, ints{20, 22}, ints{30, 32}) }

var threeRuns = []ints{{10, 12}, {20, 22}, {30, 32}}

func wantAll(t *testing.T, what string, all iter.Seq[ints], want []ints) {
	t.Helper()
	if got := slices.Collect(all); !slices.Equal(got, want) {
		t.Errorf("%s: %v, not %v", what, got, want)
	}
}

func TestAnswersStayBehindChanges(t *testing.T) {
	for name, change := range changes() {
		s := three()
		runs, all, clone := s.Runs(), s.All(), s.Clone()
		other := spans.New[int]()
		other.Join(s)
		change(s)
		if s.Same(clone) || slices.Equal(s.Runs(), threeRuns) {
			t.Errorf("%s: changed nothing", name)
		}
		if !slices.Equal(runs, threeRuns) {
			t.Errorf("%s: the answered list is %v now", name, runs)
		}
		wantAll(t, name+": the iterator", all, threeRuns)
		wantAll(t, name+": the iterator, once more", all, threeRuns)
		wantRuns(t, clone, threeRuns...)
		wantRuns(t, other, threeRuns...)
	}
}

func TestChangesOfAClone(t *testing.T) {
	for _, change := range changes() {
		s := three()
		clone, joined := s.Clone(), spans.New[int]()
		joined.Join(s)
		change(clone)
		change(joined)
		wantRuns(t, s, threeRuns...)
		if !clone.Same(joined) {
			t.Errorf("%v and %v", clone.Runs(), joined.Runs())
		}
	}
}

func TestIteratorLeftEarly(t *testing.T) {
	s := three()
	all := s.All()
	for i := range 4 {
		var got []ints
		for r := range all {
			if len(got) == i {
				break
			}
			got = append(got, r)
		}
		if want := threeRuns[:min(i, 3)]; !slices.Equal(got, want) {
			t.Errorf("left behind %d: %v", i, got)
		}
		s.Add(100*i, 100*i)
	}
	wantAll(t, "gone over to its end", all, threeRuns)
}

func TestIteratorWithinItself(t *testing.T) {
	all := three().All()
	n := 0
	for range all {
		for range all {
			n++
		}
	}
	if n != 9 {
		t.Errorf("%d rounds, not 9", n)
	}
}

func TestChangesWhileAnIteratorIsGoneOver(t *testing.T) {
	s := three()
	var got []ints
	for r := range s.All() {
		got = append(got, r)
		s.Cut(r.Lo, r.Hi)
		s.Add(r.Lo-5, r.Lo-5)
	}
	if !slices.Equal(got, threeRuns) {
		t.Errorf("All: %v", got)
	}
	wantRuns(t, s, ints{5, 5}, ints{15, 15}, ints{25, 25})
}

// scribble writes over a list and over its spare room.
func scribble(runs []ints) {
	runs = runs[:cap(runs)]
	for i := range runs {
		runs[i] = ints{-1, -1}
	}
}

func TestListsAreNewMemory(t *testing.T) {
	s := three()
	s.Add(40, 40)
	s.Cut(40, 40)
	first, second, all := s.Runs(), s.Runs(), s.All()
	scribble(first)
	if !slices.Equal(second, threeRuns) {
		t.Errorf("the other list is %v now", second)
	}
	wantRuns(t, s, threeRuns...)
	wantAll(t, "the iterator", all, threeRuns)
	s.Add(40, 40)
	scribble(second)
	s.Add(50, 50)
	wantRuns(t, s, append(slices.Clone(threeRuns), ints{40, 40}, ints{50, 50})...)
}
