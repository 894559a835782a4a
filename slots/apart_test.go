package slots_test

import (
	"iter"
	"testing"

	"bramble/slots"
)

// change: one way to change a table.
type change struct {
	name string
	do   func(s *slots.Table[string])
}

func changes() []change {
	return []change{
		{"Put", func(s *slots.Table[string]) { s.Put("new") }},
		{"PutAt at the end", func(s *slots.Table[string]) { s.PutAt(9, "new") }},
		{"PutAt of a gap", func(s *slots.Table[string]) { s.PutAt(4, "new") }},
		{"Set of the first", func(s *slots.Table[string]) { s.Set(1, "new") }},
		{"Set of the last", func(s *slots.Table[string]) { s.Set(5, "new") }},
		{"Drop of the first", func(s *slots.Table[string]) { s.Drop(1) }},
		{"Drop of the last", func(s *slots.Table[string]) { s.Drop(5) }},
		{"Drop and Put", func(s *slots.Table[string]) { s.Drop(2); s.Put("new"); s.Put("new") }},
		{"all dropped", dropAll},
		{"all filled", fill},
		{"all other ones", func(s *slots.Table[string]) { dropAll(s); fill(s) }},
	}
}

func dropAll(s *slots.Table[string]) {
	for i := s.Next(0); i > 0; i = s.Next(i) {
		s.Drop(i)
	}
}

func fill(s *slots.Table[string]) {
	for s.Free() > 0 {
		s.Put("new")
	}
}

// gapped: a table of ten places with things at four of them, and what its iterators give.
func gapped() (*slots.Table[string], []row[string]) {
	s := slots.New[string](10)
	for _, x := range []string{"a", "b", "c", "gone", "e"} {
		s.Put(x)
	}
	s.Drop(4)
	return s, []row[string]{{1, "a"}, {2, "b"}, {3, "c"}, {5, "e"}}
}

// collect: what the table has, asked place by place.
func collect(s *slots.Table[string]) []row[string] {
	var rows []row[string]
	for i := s.Next(1); i > 0; i = s.Next(i + 1) {
		x, _ := s.At(i)
		rows = append(rows, row[string]{i, x})
	}
	return rows
}

func TestIteratorsKeepWhatWasThere(t *testing.T) {
	for _, c := range changes() {
		t.Run(c.name, func(t *testing.T) {
			s, rows := gapped()
			fresh, used := s.All(), s.All()
			wantRows(t, used, rows, equal)
			c.do(s)
			wantRows(t, fresh, rows, equal)
			wantRows(t, used, rows, equal)
			wantRows(t, s.All(), collect(s), equal)
		})
	}
}

// Iterators that were answered one behind another, each ahead of one more change: none sees the others' changes.
func TestIteratorsOfManyTimes(t *testing.T) {
	s, rows := gapped()
	all, wanted := []iter.Seq2[int, string]{s.All()}, [][]row[string]{rows}
	for _, c := range append(changes(), changes()...) {
		c.do(s)
		all, wanted = append(all, s.All()), append(wanted, collect(s))
	}
	for at := range all {
		wantRows(t, all[at], wanted[at], equal)
	}
}

func TestChangedWhileGoneOver(t *testing.T) {
	for _, c := range changes() {
		t.Run(c.name, func(t *testing.T) {
			for moment := range 4 {
				s, rows := gapped()
				all := s.All()
				var got []row[string]
				for i, x := range all {
					if len(got) == moment {
						c.do(s)
					}
					got = append(got, row[string]{i, x})
				}
				if !equalRows(got, rows) {
					t.Fatalf("changed at %d: All gave %v, not %v", moment, got, rows)
				}
				wantRows(t, all, rows, equal)
				wantRows(t, s.All(), collect(s), equal)
			}
		})
	}
}

func equalRows(a, b []row[string]) bool {
	if len(a) != len(b) {
		return false
	}
	for i := range a {
		if a[i] != b[i] {
			return false
		}
	}
	return true
}

// All loops over one iterator begin at its beginning, also one inside another.
func TestLoopsInLoops(t *testing.T) {
	s, rows := gapped()
	all := s.All()
	outer := 0
	for i, x := range all {
		if rows[outer] != (row[string]{i, x}) {
			t.Fatalf("the outer loop had %d %s, not %v", i, x, rows[outer])
		}
		s.Drop(i)
		wantRows(t, all, rows, equal)
		outer++
	}
	wantNumber(t, "rows of the outer loop", outer, len(rows))
	wantNothing(t, s, "a")
}

func TestEveryRowDroppedInItsTurn(t *testing.T) {
	s := slots.New[int](100)
	for i := 1; i <= 100; i++ {
		s.PutAt(101-i, 101-i)
	}
	turn := 0
	for i, x := range s.All() {
		turn++
		if i != turn || x != turn {
			t.Fatalf("All gave %d %d in turn %d", i, x, turn)
		}
		wantDrop(t, s, i, i, true)
		s.PutAt(101-i, -1)
	}
	wantNumber(t, "turns", turn, 100)
}

// An iterator of a table without things stays so.
func TestIteratorsOfNothing(t *testing.T) {
	s := slots.New[string](4)
	never := s.All()
	s.Put("a")
	s.Drop(1)
	noMore := s.All()
	s.Put("b")
	wantRows(t, never, nil, equal)
	wantRows(t, noMore, nil, equal)
	wantRows(t, s.All(), []row[string]{{1, "b"}}, equal)
}

func TestTablesApart(t *testing.T) {
	for _, c := range changes() {
		t.Run(c.name, func(t *testing.T) {
			s, rows := gapped()
			other, _ := gapped()
			empty := slots.New[string](10)
			c.do(s)
			wantRows(t, other.All(), rows, equal)
			wantNumber(t, "Len of the other table", other.Len(), 4)
			wantNumber(t, "Free of the other table", other.Free(), 4)
			wantNothing(t, empty, "a")
			wantNumber(t, "Free of the empty table", empty.Free(), 1)
			wantPut(t, other, "d", 4, true)
			wantPut(t, other, "f", 6, true)
		})
	}
}

// Tables of one kind whose calls are made by turns.
func TestTablesByTurns(t *testing.T) {
	var pairs []*pair[int]
	for most := range 6 {
		pairs = append(pairs, newPair[int](t, most, equal))
	}
	for turn := range 600 {
		for most, p := range pairs {
			calls := everyCall(most)
			p.do(calls[(turn*turn+turn*most)%len(calls)], turn*10+most)
		}
		for _, p := range pairs {
			p.compare()
		}
	}
}
