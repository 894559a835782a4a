package store_test

import (
	"math"
	"math/rand/v2"
	"reflect"
	"slices"
	"testing"

	"bramble/api"
	"bramble/store"
)

// change: one way to change a store.
type change struct {
	name string
	do   func(s *store.Store)
}

func changes() []change {
	return []change{
		{"AddVertex", func(s *store.Store) { s.AddVertex(0); s.AddVertex(25) }},
		{"AddEdge", func(s *store.Store) { s.AddEdge(10, 20, 1); s.AddEdge(20, 20, 2) }},
		{"AddEdge of many", func(s *store.Store) { addMany(s, 40) }},
		{"PutEdge", func(s *store.Store) { s.PutEdge(api.Edge{E: 1000, U: 10, V: 20}) }},
		{"DropEdge of the first", func(s *store.Store) { s.DropEdge(2) }},
		{"DropEdge of the last", func(s *store.Store) { s.DropEdge(9) }},
		{"DropEdge and AddEdge", func(s *store.Store) { s.DropEdge(3); s.AddEdge(10, 20, 3); s.AddEdge(10, 20, 4) }},
		{"Reweigh", func(s *store.Store) { s.Reweigh(3, 77) }},
		{"DropVertex", func(s *store.Store) { s.DropVertex(10) }},
		{"DropVertex of the last", func(s *store.Store) { s.DropVertex(30); s.AddVertex(31) }},
		{"DropVertex and all again", func(s *store.Store) { s.DropVertex(20); s.AddVertex(20); addMany(s, 9) }},
		{"all gone", dropAll},
		{"all other ones", func(s *store.Store) { dropAll(s); s.AddVertex(10); s.AddVertex(20); addMany(s, 20) }},
	}
}

func addMany(s *store.Store, n int) {
	for i := range n {
		s.AddEdge(10+i%2*10, 20, uint32(i))
	}
}

func dropAll(s *store.Store) {
	for _, v := range s.Vertices() {
		s.DropVertex(v)
	}
}

// small: three vertices, and the edges 2 to 9 less one. Others have gone, so that lists may have room.
func small() *store.Store {
	s := store.New()
	for _, v := range []int{30, 10, 40, 20} {
		s.AddVertex(v)
	}
	for _, ends := range [][2]int{{10, 20}, {10, 20}, {10, 10}, {20, 30}, {40, 10}, {20, 10}, {30, 30}, {10, 30}, {10, 20}, {10, 20}} {
		s.AddEdge(ends[0], ends[1], uint32(ends[0]*ends[1]))
	}
	s.DropVertex(40)
	s.DropEdge(1)
	s.DropEdge(10)
	s.Edge(4)
	return s
}

// picture: all that a store tells, but the records, as asking for them is counted.
type picture struct {
	Vertices, Edges     []int
	Out, In             [][]int
	Has                 []bool
	Free, Reads, Writes int
}

// askedOf: the vertices that a picture is of.
func askedOf() []int {
	return []int{math.MinInt, -1, 0, 10, 15, 20, 25, 30, 31, 40, 1 << 31, math.MaxInt}
}

func pictureOf(s *store.Store) picture {
	p := picture{Vertices: clone(s.Vertices()), Edges: clone(s.Edges()), Free: s.Free(), Reads: s.Reads(), Writes: s.Writes()}
	for _, v := range askedOf() {
		p.Out, p.In, p.Has = append(p.Out, clone(s.Out(v))), append(p.In, clone(s.In(v))), append(p.Has, s.Has(v))
	}
	return p
}

// clone: the same for every list that is empty, as nil and empty mean the same.
func clone(list []int) []int { return append([]int{}, list...) }

func wantPicture(t *testing.T, what string, s *store.Store, want picture) {
	t.Helper()
	if got := pictureOf(s); !reflect.DeepEqual(got, want) {
		t.Fatalf("%s: %+v, not %+v", what, got, want)
	}
}

// records: of all edges.
func records(s *store.Store) []api.Edge {
	var all []api.Edge
	for _, e := range s.Edges() {
		x, _ := s.Edge(e)
		all = append(all, x)
	}
	return all
}

func TestErrorsChangeNothing(t *testing.T) {
	nan := uint32(0x7fc00000)
	refused := []struct {
		name string
		do   func(s *store.Store) api.Errno
		want api.Errno
	}{
		{"AddVertex(-1)", func(s *store.Store) api.Errno { return s.AddVertex(-1) }, api.ErrVertex},
		{"AddVertex(2^31)", func(s *store.Store) api.Errno { return s.AddVertex(1 << 31) }, api.ErrVertex},
		{"AddVertex again", func(s *store.Store) api.Errno { return s.AddVertex(10) }, api.ErrTwice},
		{"DropVertex", func(s *store.Store) api.Errno { _, errno := s.DropVertex(40); return errno }, api.ErrNoVertex},
		{"AddEdge to nowhere", func(s *store.Store) api.Errno { _, errno := s.AddEdge(10, 40, 0); return errno }, api.ErrNoVertex},
		{"AddEdge from nowhere", func(s *store.Store) api.Errno { _, errno := s.AddEdge(40, 10, nan); return errno }, api.ErrNoVertex},
		{"AddEdge without weight", func(s *store.Store) api.Errno { _, errno := s.AddEdge(10, 20, nan); return errno }, api.ErrBadWeight},
		{"PutEdge(0)", func(s *store.Store) api.Errno { return s.PutEdge(api.Edge{U: 40, V: 10, Bits: nan}) }, api.ErrRange},
		{"PutEdge(1025)", func(s *store.Store) api.Errno { return s.PutEdge(api.Edge{E: 1025, U: 10, V: 10}) }, api.ErrRange},
		{"PutEdge to nowhere", func(s *store.Store) api.Errno { return s.PutEdge(api.Edge{E: 3, U: 10, V: 40, Bits: nan}) }, api.ErrNoVertex},
		{"PutEdge from nowhere", func(s *store.Store) api.Errno { return s.PutEdge(api.Edge{E: 1, U: 40, V: 10}) }, api.ErrNoVertex},
		{"PutEdge without weight", func(s *store.Store) api.Errno { return s.PutEdge(api.Edge{E: 3, U: 10, V: 20, Bits: nan}) }, api.ErrBadWeight},
		{"PutEdge again", func(s *store.Store) api.Errno { return s.PutEdge(api.Edge{E: 3, U: 20, V: 10, Bits: 1}) }, api.ErrTwice},
		{"DropEdge", func(s *store.Store) api.Errno { _, errno := s.DropEdge(1); return errno }, api.ErrNoEdge},
		{"Reweigh of none", func(s *store.Store) api.Errno { _, errno := s.Reweigh(1, nan); return errno }, api.ErrNoEdge},
		{"Reweigh without weight", func(s *store.Store) api.Errno { _, errno := s.Reweigh(3, nan); return errno }, api.ErrBadWeight},
		{"Edge", func(s *store.Store) api.Errno { _, errno := s.Edge(1); return errno }, api.ErrNoEdge},
	}
	for _, r := range refused {
		t.Run(r.name, func(t *testing.T) {
			s, other := small(), small()
			before := pictureOf(s)
			for range 3 {
				wantCode(t, r.name, r.do(s), r.want)
				wantPicture(t, "behind the error", s, before)
			}
			if got, want := records(s), records(other); !slices.Equal(got, want) {
				t.Fatalf("records behind the error: %v, not %v", got, want)
			}
		})
	}
}

// scribble writes into a list and into its spare room.
func scribble(list []int) {
	list = list[:cap(list)]
	for i := range list {
		list[i] = -77
	}
}

// lists: all that a store answers without being changed.
func lists(s *store.Store) [][]int {
	all := [][]int{s.Vertices(), s.Edges()}
	for _, v := range askedOf() {
		all = append(all, s.Out(v), s.In(v))
	}
	return all
}

func copies(all [][]int) [][]int {
	var to [][]int
	for _, list := range all {
		to = append(to, clone(list))
	}
	return to
}

func TestWrittenIntoAnAnswer(t *testing.T) {
	s, other := small(), small()
	before := pictureOf(s)
	for range 3 {
		for _, list := range lists(s) {
			_ = append(list, -77)
			wantPicture(t, "behind an append", s, before)
			scribble(list)
			wantPicture(t, "behind the writing", s, before)
		}
	}
	if got, want := records(s), records(other); !slices.Equal(got, want) {
		t.Fatalf("records behind the writing: %v, not %v", got, want)
	}
}

// No list shares memory with another one, of the same call or of another.
func TestAnswersApart(t *testing.T) {
	s := small()
	all := append(lists(s), lists(s)...)
	for at, list := range all {
		before := copies(all)
		scribble(list)
		for other := range all {
			if other != at {
				wantList(t, "another list", all[other], before[other]...)
			}
		}
	}
}

func TestChangesAreNotSeenInAnswers(t *testing.T) {
	for _, c := range changes() {
		t.Run(c.name, func(t *testing.T) {
			s := small()
			all := lists(s)
			before := copies(all)
			c.do(s)
			for at := range all {
				wantList(t, "a list of earlier", all[at], before[at]...)
			}
		})
	}
}

// What is written into the answers is not seen behind a change either, as the store's own lists are moved there.
func TestWrittenIntoAnswersAheadOfAChange(t *testing.T) {
	for _, c := range changes() {
		t.Run(c.name, func(t *testing.T) {
			s, other := small(), small()
			for _, list := range lists(s) {
				scribble(list)
			}
			c.do(s)
			c.do(other)
			wantPicture(t, "behind the change", s, pictureOf(other))
			if got, want := records(s), records(other); !slices.Equal(got, want) {
				t.Fatalf("records behind the change: %v, not %v", got, want)
			}
		})
	}
}

// Lists that were answered one behind another, each ahead of one more change: none sees the others' changes.
func TestAnswersOfManyTimes(t *testing.T) {
	s := small()
	var all, before [][]int
	for _, c := range append(changes(), changes()...) {
		all = append(all, lists(s)...)
		before = append(before, copies(lists(s))...)
		c.do(s)
	}
	for at := range all {
		wantList(t, "a list of earlier", all[at], before[at]...)
	}
}

// The records that go with a vertex: written into, and held while the store goes on.
func TestRecordsOfDropVertexApart(t *testing.T) {
	for _, c := range changes() {
		t.Run(c.name, func(t *testing.T) {
			s, other := small(), small()
			held, _ := s.DropVertex(20)
			want, _ := other.DropVertex(20)
			again := slices.Clone(held)
			if len(held) == 0 || !slices.Equal(held, want) {
				t.Fatalf("DropVertex: %v, not %v", held, want)
			}
			c.do(s)
			c.do(other)
			if !slices.Equal(held, again) {
				t.Fatalf("records of earlier: %v, not %v", held, again)
			}
			next, _ := s.DropVertex(10)
			wanted, _ := other.DropVertex(10)
			room := held[:cap(held)]
			for i := range room {
				room[i] = api.Edge{E: -7, U: -7, V: -7, Bits: 7}
			}
			if !slices.Equal(next, wanted) {
				t.Fatalf("records of later: %v, not %v", next, wanted)
			}
			wantPicture(t, "behind the writing", s, pictureOf(other))
			if got, want := records(s), records(other); !slices.Equal(got, want) {
				t.Fatalf("records behind the writing: %v, not %v", got, want)
			}
		})
	}
}

func TestStoresApart(t *testing.T) {
	for _, c := range changes() {
		t.Run(c.name, func(t *testing.T) {
			s, other, empty := small(), small(), store.New()
			before, edges := pictureOf(other), records(small())
			c.do(s)
			wantPicture(t, "of the other store", other, before)
			wantPicture(t, "of the empty store", empty, pictureOf(store.New()))
			if got := records(other); !slices.Equal(got, edges) {
				t.Fatalf("records of the other store: %v, not %v", got, edges)
			}
		})
	}
}

// Stores whose calls are made by turns.
func TestStoresByTurns(t *testing.T) {
	calls := fewCalls()
	r := rand.New(rand.NewPCG(7, 4))
	var pairs []*pair
	for range 4 {
		pairs = append(pairs, newPair(t))
	}
	for range 1500 {
		for _, p := range pairs {
			p.do(pick(r, calls))
		}
		for _, p := range pairs {
			p.compare(3, 7)
		}
	}
}
