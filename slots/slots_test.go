package slots_test

import (
	"iter"
	"math"
	"strconv"
	"testing"

	"bramble/slots"
)

func want(t *testing.T, what string, got, want bool) {
	t.Helper()
	if got != want {
		t.Errorf("%s: %v, not %v", what, got, want)
	}
}

func wantNumber(t *testing.T, what string, got, want int) {
	t.Helper()
	if got != want {
		t.Errorf("%s: %d, not %d", what, got, want)
	}
}

func wantPut[T any](t *testing.T, s *slots.Table[T], x T, i int, ok bool) {
	t.Helper()
	if gi, gok := s.Put(x); gi != i || gok != ok {
		t.Errorf("Put(%v): %d, %v, not %d, %v", x, gi, gok, i, ok)
	}
}

func wantAt[T comparable](t *testing.T, s *slots.Table[T], i int, x T, ok bool) {
	t.Helper()
	if gx, gok := s.At(i); gx != x || gok != ok {
		t.Errorf("At(%d): %v, %v, not %v, %v", i, gx, gok, x, ok)
	}
}

func wantDrop[T comparable](t *testing.T, s *slots.Table[T], i int, x T, ok bool) {
	t.Helper()
	if gx, gok := s.Drop(i); gx != x || gok != ok {
		t.Errorf("Drop(%d): %v, %v, not %v, %v", i, gx, gok, x, ok)
	}
}

// wantRows goes over the iterator twice, and once more for each place at which the loop may be left.
func wantRows[T any](t *testing.T, all iter.Seq2[int, T], rows []row[T], same func(a, b T) bool) {
	t.Helper()
	wantBeginning(t, all, rows, len(rows)+1, same)
	for most := range rows {
		wantBeginning(t, all, rows[:most+1], most+1, same)
	}
	wantBeginning(t, all, rows, len(rows)+1, same)
}

// wantBeginning leaves the loop behind so many rows.
func wantBeginning[T any](t *testing.T, all iter.Seq2[int, T], rows []row[T], most int, same func(a, b T) bool) {
	t.Helper()
	var got []row[T]
	for i, x := range all {
		got = append(got, row[T]{i, x})
		if len(got) == most {
			break
		}
	}
	if len(got) != len(rows) {
		t.Fatalf("All gave %v, not %v", got, rows)
	}
	for at, r := range rows {
		if got[at].number != r.number || !same(got[at].thing, r.thing) {
			t.Fatalf("All gave %v, not %v", got, rows)
		}
	}
}

// wantNothing: nothing stands anywhere, and what has nothing to tell tells zero values.
func wantNothing[T comparable](t *testing.T, s *slots.Table[T], x T) {
	t.Helper()
	var zero T
	wantNumber(t, "Len", s.Len(), 0)
	for _, i := range append(asked(5), 65534, 65538) {
		wantAt(t, s, i, zero, false)
		wantDrop(t, s, i, zero, false)
		want(t, "Set where nothing stands", s.Set(i, x), false)
		wantAt(t, s, i, zero, false)
		wantNumber(t, "Next", s.Next(i), 0)
	}
	wantRows(t, s.All(), nil, equal)
	wantNumber(t, "Len", s.Len(), 0)
}

func TestExamples(t *testing.T) {
	s := slots.New[string](3)
	wantPut(t, s, "a", 1, true)
	wantPut(t, s, "b", 2, true)
	wantDrop(t, s, 1, "a", true)
	wantNumber(t, "Free", s.Free(), 1)
	want(t, `PutAt(3, "c")`, s.PutAt(3, "c"), true)
	want(t, `PutAt(3, "d")`, s.PutAt(3, "d"), false)
	wantPut(t, s, "e", 1, true)
	wantPut(t, s, "f", 0, false)
	wantNumber(t, "Next(2)", s.Next(2), 2)
	wantNumber(t, "Next(4)", s.Next(4), 0)
	wantAt(t, s, 4, "", false)
	want(t, `Set(2, "x")`, s.Set(2, "x"), true)
	wantRows(t, s.All(), []row[string]{{1, "e"}, {2, "x"}, {3, "c"}}, equal)
}

func TestWithoutPlaces(t *testing.T) {
	for _, most := range []int{0, -1, -2, -65536, math.MinInt + 1, math.MinInt} {
		s := slots.New[string](most)
		wantPut(t, s, "a", 0, false)
		for _, i := range asked(5) {
			want(t, "PutAt without places", s.PutAt(i, "a"), false)
		}
		wantNumber(t, "Free", s.Free(), 0)
		wantNothing(t, s, "a")
	}
}

func TestOnePlace(t *testing.T) {
	s := slots.New[string](1)
	wantNothing(t, s, "a")
	wantNumber(t, "Free", s.Free(), 1)
	wantPut(t, s, "a", 1, true)
	wantPut(t, s, "b", 0, false)
	want(t, "PutAt(1) of a full table", s.PutAt(1, "b"), false)
	want(t, "PutAt(0)", s.PutAt(0, "b"), false)
	want(t, "PutAt(2)", s.PutAt(2, "b"), false)
	wantNumber(t, "Free", s.Free(), 0)
	wantAt(t, s, 1, "a", true)
	wantRows(t, s.All(), []row[string]{{1, "a"}}, equal)
	wantDrop(t, s, 1, "a", true)
	wantNothing(t, s, "a")
	want(t, "PutAt(1)", s.PutAt(1, "c"), true)
	wantAt(t, s, 1, "c", true)
	wantNumber(t, "Len", s.Len(), 1)
}

// A table that is filled by Put: all its numbers, those beyond it, and places that are freed at the beginning, in the middle and at the end.
func testFull(t *testing.T, most, places int) {
	s := slots.New[int](most)
	for i := 1; i <= places; i++ {
		wantNumber(t, "Free", s.Free(), i)
		wantPut(t, s, -i, i, true)
	}
	for range 2 {
		wantPut(t, s, 7, 0, false)
		wantNumber(t, "Free", s.Free(), 0)
		wantNumber(t, "Len", s.Len(), places)
	}
	for i := 1; i <= places; i++ {
		wantAt(t, s, i, -i, true)
		wantNumber(t, "Next", s.Next(i), i)
		want(t, "PutAt of a full table", s.PutAt(i, 7), false)
	}
	for _, i := range []int{0, -1, places + 1, places + 2, math.MinInt, math.MaxInt, places - 1<<32, places + 1<<32} {
		want(t, "PutAt where no place is", s.PutAt(i, 7), false)
		want(t, "Set where no place is", s.Set(i, 7), false)
		wantAt(t, s, i, 0, false)
		wantDrop(t, s, i, 0, false)
	}
	wantNumber(t, "Next(0)", s.Next(0), 1)
	wantNumber(t, "Next behind the last", s.Next(places+1), 0)
	middle := (places + 1) / 2
	for _, i := range []int{places, middle, 1} {
		wantDrop(t, s, i, -i, true)
		wantDrop(t, s, i, 0, false)
		wantNumber(t, "Free", s.Free(), i)
	}
	for _, i := range []int{1, middle, places} {
		wantPut(t, s, i, i, true)
		wantAt(t, s, i, i, true)
	}
	wantPut(t, s, 7, 0, false)
	wantNumber(t, "Len", s.Len(), places)
}

func TestFullTables(t *testing.T) {
	for _, places := range []int{3, 4, 5, 7, 16, 1024, 65535, 65536} {
		t.Run(strconv.Itoa(places), func(t *testing.T) { testFull(t, places, places) })
	}
}

func TestMostAboveAll(t *testing.T) {
	for _, most := range []int{65537, 65536 * 2, 1<<32 + 1, math.MaxInt} {
		t.Run(strconv.Itoa(most), func(t *testing.T) { testFull(t, most, 65536) })
	}
}

func TestLastPlaceOfAll(t *testing.T) {
	for _, most := range []int{65536, 65537, math.MaxInt} {
		s := slots.New[string](most)
		want(t, "PutAt(65537)", s.PutAt(65537, "a"), false)
		wantNothing(t, s, "a")
		want(t, "PutAt(65536)", s.PutAt(65536, "a"), true)
		wantAt(t, s, 65536, "a", true)
		wantNumber(t, "Free", s.Free(), 1)
		wantNumber(t, "Next(1)", s.Next(1), 65536)
		wantNumber(t, "Next(65536)", s.Next(65536), 65536)
		wantNumber(t, "Next(65537)", s.Next(65537), 0)
		for i := 1; i < 65536; i++ {
			wantPut(t, s, "b", i, true)
		}
		wantPut(t, s, "c", 0, false)
		wantNumber(t, "Len", s.Len(), 65536)
	}
	s := slots.New[string](65535)
	want(t, "PutAt(65536) of 65535", s.PutAt(65536, "a"), false)
	wantNothing(t, s, "a")
}

func TestPutAt(t *testing.T) {
	s := slots.New[string](5)
	want(t, "PutAt in the middle", s.PutAt(3, "c"), true)
	want(t, "PutAt of a taken place", s.PutAt(3, "x"), false)
	wantAt(t, s, 3, "c", true)
	want(t, "PutAt at the end", s.PutAt(5, "e"), true)
	want(t, "PutAt at the beginning", s.PutAt(1, "a"), true)
	wantNumber(t, "Free", s.Free(), 2)
	wantPut(t, s, "b", 2, true)
	want(t, "PutAt at the last free place", s.PutAt(4, "d"), true)
	wantNumber(t, "Free", s.Free(), 0)
	wantRows(t, s.All(), []row[string]{{1, "a"}, {2, "b"}, {3, "c"}, {4, "d"}, {5, "e"}}, equal)
	wantDrop(t, s, 3, "c", true)
	want(t, "PutAt of a freed place", s.PutAt(3, "y"), true)
	wantPut(t, s, "z", 0, false)
}

func TestSet(t *testing.T) {
	s := slots.New[point](3)
	s.Put(point{1, 1})
	s.Put(point{2, 2})
	s.Drop(1)
	for _, i := range []int{math.MinInt, -1, 0, 1, 3, 4, math.MaxInt} {
		want(t, "Set where nothing stands", s.Set(i, point{9, 9}), false)
		wantAt(t, s, i, point{}, false)
	}
	wantNumber(t, "Len", s.Len(), 1)
	want(t, "Set", s.Set(2, point{}), true)
	wantAt(t, s, 2, point{}, true)
	wantNumber(t, "Len", s.Len(), 1)
	wantNumber(t, "Free", s.Free(), 1)
	wantDrop(t, s, 2, point{}, true)
	wantNothing(t, s, point{9, 9})
}

func TestNext(t *testing.T) {
	s := slots.New[bool](10)
	for _, i := range []int{3, 4, 8} {
		s.PutAt(i, false)
	}
	for i, next := range []int{3, 3, 3, 3, 4, 8, 8, 8, 8, 0, 0, 0, 0} {
		wantNumber(t, "Next("+strconv.Itoa(i)+")", s.Next(i), next)
	}
	wantNumber(t, "Next of the least int", s.Next(math.MinInt), 3)
	wantNumber(t, "Next of the greatest int", s.Next(math.MaxInt), 0)
	s.Drop(8)
	wantNumber(t, "Next(5)", s.Next(5), 0)
	s.Drop(3)
	wantNumber(t, "Next(1)", s.Next(1), 4)
}

// A zero thing that was put in is something: just the false tells where nothing stands.
func TestZeroThings(t *testing.T) {
	s := slots.New[*point](2)
	wantPut(t, s, nil, 1, true)
	wantPut(t, s, nil, 2, true)
	wantAt(t, s, 1, nil, true)
	wantNumber(t, "Len", s.Len(), 2)
	wantNumber(t, "Next(2)", s.Next(2), 2)
	want(t, "PutAt", s.PutAt(1, &point{}), false)
	wantRows(t, s.All(), []row[*point]{{1, nil}, {2, nil}}, equal)
	wantDrop(t, s, 1, nil, true)
	wantDrop(t, s, 1, nil, false)
}

// Many places of a great table are taken and freed far from one another.
func TestFarPlaces(t *testing.T) {
	s := slots.New[int](65536)
	for i := 65536; i > 0; i -= 4096 {
		want(t, "PutAt", s.PutAt(i, i), true)
	}
	wantNumber(t, "Len", s.Len(), 16)
	wantNumber(t, "Free", s.Free(), 1)
	for i := 4096; i <= 65536; i += 4096 {
		wantNumber(t, "Next", s.Next(i-4095), i)
		wantDrop(t, s, i, i, true)
	}
	wantNothing(t, s, 1)
	for i := 1; i < 5000; i++ {
		wantPut(t, s, i, i, true)
	}
}
