package check_test

import (
	"bytes"
	"slices"
	"sync"
	"testing"

	"bramble/api"
	"bramble/check"
)

const ahead, room = 2, 2100

// roomy: the same bytes in the midst of others, with spare room behind them; and all of that memory.
func roomy(b []byte, other byte) (given, memory []byte) {
	memory = slices.Concat(bytes.Repeat([]byte{other}, ahead), b, bytes.Repeat([]byte{other}, room))
	return memory[ahead : ahead+len(b)], memory
}

// scribble writes into a list and into its spare room.
func scribble[T any](list []T, other T) {
	list = list[:cap(list)]
	for i := range list {
		list[i] = other
	}
}

// looking: a graph that looks at something whenever it is asked.
type looking struct {
	book *book
	look func()
}

func (g looking) Has(v int) bool {
	g.look()
	return g.book.Has(v)
}

func (g looking) Edge(e int) (api.Edge, api.Errno) {
	g.look()
	return g.book.Edge(e)
}

// texts: the bytes of witnesses, accepted and refused, and such as are none's.
func texts(t *testing.T) [][]byte {
	list := [][]byte{nil, {}, {183}, {0}, bytes.Repeat([]byte{183, 128}, 30)}
	for _, w := range claims() {
		b := bytesOf(t, w)
		list = append(list, b, b[:len(b)-1], append(slices.Clone(b), 0))
	}
	return list
}

func TestBytesStay(t *testing.T) {
	for _, b := range texts(t) {
		given, memory := roomy(b, 1)
		was := bytes.Clone(memory)
		stay := func() {
			if !bytes.Equal(memory, was) {
				t.Fatalf("P17.2: the bytes are %v, and were %v", head(given), head(b))
			}
		}
		g := looking{town(), stay}
		w, _, _ := check.Check(g, given)
		stay()
		check.Claim(g, w.From, w.To, w.Bits, given)
		stay()
		check.Claim(g, 1, 2, 3, given)
		stay()
		scribble(append(w.Edges, 1, 2, 3), 77)
		scribble(w.Edges, 77)
		stay()
	}
}

// What stands in the spare room, and ahead of the bytes, changes no answer.
func TestRoomIsNotRead(t *testing.T) {
	g := town()
	for _, b := range texts(t) {
		for _, other := range []byte{0, 1, 128, 183, 255} {
			given, _ := roomy(b, other)
			if tryBytes(t, g, given) != tryBytes(t, g, b) {
				t.Fatalf("P17.2: beside other bytes, %v are others", head(b))
			}
		}
	}
}

// What is written into the bytes later isn't seen in a witness that was answered, nor in later answers.
func TestBytesAreNotKept(t *testing.T) {
	g := town()
	for _, want := range claims() {
		given, memory := roomy(bytesOf(t, want), 1)
		w, place, errno := check.Check(g, given)
		scribble(memory, 5)
		if at, e := g.judged(want); at != place || e != errno || e == api.OK && !same(w, want) {
			t.Fatalf("P17.2: %v, %d, %d of %v", w, place, errno, want)
		}
		wantNone(t, g, given)
		tryBytes(t, g, bytesOf(t, want))
	}
}

// Answers of the same and of other bytes share nothing.
func TestAnswersApart(t *testing.T) {
	g := town()
	var all, was [][]int
	for range 2 {
		for _, w := range claims() {
			b := bytesOf(t, w)
			for range 2 {
				got, _, _ := check.Check(g, b)
				all, was = append(all, got.Edges), append(was, slices.Clone(got.Edges))
			}
		}
	}
	for at := range all {
		scribble(all[at], -77)
		scribble(was[at], -77)
		for i := range all {
			if !slices.Equal(all[i], was[i]) {
				t.Fatalf("P17.2: an answer of earlier is %v, not %v", all[i], was[i])
			}
		}
	}
}

// The same calls behind one another, with answers written into in between.
func TestTheSameAgain(t *testing.T) {
	g := town()
	for range 3 {
		for _, w := range claims() {
			place, errno := g.judged(w)
			wantCheck(t, g, w, place, errno)
			got, _, _ := check.Check(g, bytesOf(t, w))
			scribble(got.Edges, -77)
		}
	}
}

// Nothing of the graph is kept either: a graph that is another one at a later call is seen as it is then.
func TestGraphIsAskedAnew(t *testing.T) {
	g := town()
	w := api.Witness{From: 0, To: 1, Bits: one, Edges: []int{1}}
	wantCheck(t, g, w, 0, api.OK)
	g.edges[1] = edge(0, 1, two)
	wantCheck(t, g, w, 0, api.ErrCost)
	g.edges[1] = edge(0, 0, one)
	wantCheck(t, g, w, 0, api.ErrEnd)
	g.edges[1] = edge(1, 1, one)
	wantCheck(t, g, w, 0, api.ErrBroken)
	delete(g.edges, 1)
	wantCheck(t, g, w, 0, api.ErrNoEdge)
	g.vertices[1] = false
	wantCheck(t, g, w, 0, api.ErrNoVertex)
	g.vertices[1], g.edges[1] = true, edge(0, 1, one)
	wantCheck(t, g, w, 0, api.OK)
	other := newBook(edge(0, 1, two))
	wantCheck(t, other, w, 0, api.ErrCost)
	wantCheck(t, g, w, 0, api.OK)
}

// wheel: a graph of another kind: its vertices are the numbers below n, and the edge e leads from e mod n to the next one, at a cost of 2^(e mod 100).
type wheel int

func (n wheel) Has(v int) bool { return v < int(n) }

func (n wheel) Edge(e int) (api.Edge, api.Errno) {
	return api.Edge{E: -e, U: e % int(n), V: (e + 1) % int(n), Bits: one + uint32(e%100)<<23}, api.OK
}

func TestAnotherKindOfGraph(t *testing.T) {
	g := wheel(10)
	wantCheck(t, g, api.Witness{From: 3, To: 6, Bits: 0x42400000, Edges: []int{3, 4, 5}}, 0, api.ErrCost)
	wantCheck(t, g, api.Witness{From: 3, To: 6, Bits: 0x42600000, Edges: []int{3, 4, 5}}, 0, api.OK) // 8 + 16 + 32
	wantCheck(t, g, api.Witness{From: 9, To: 1, Bits: 0x44004000, Edges: []int{9, 100}}, 0, api.OK)  // 512 + 1
	wantCheck(t, g, api.Witness{From: 9, To: 1, Edges: []int{9, 101}}, 1, api.ErrBroken)
	wantCheck(t, g, api.Witness{From: 9, To: 10}, 0, api.ErrNoVertex)
	round := api.Witness{From: 1, To: 5}
	var bits []uint32
	for e := 1; e <= 1024; e++ {
		round.Edges, bits = append(round.Edges, e), append(bits, one+uint32(e%100)<<23)
	}
	wantCheck(t, g, round, 0, api.ErrCost)
	round.Bits = fold(bits)
	wantCheck(t, g, round, 0, api.OK)
	wantCheck(t, wheel(1), api.Witness{Bits: two, Edges: []int{100, 200}}, 0, api.OK)
}

// Several may ask one graph at once that may be asked at once, since nothing is kept or written.
func TestSideBySide(t *testing.T) {
	g := wheel(10)
	right := bytesOf(t, api.Witness{From: 3, To: 6, Bits: 0x42600000, Edges: []int{3, 4, 5}})
	wrong := bytesOf(t, api.Witness{From: 9, To: 1, Edges: []int{9, 101}})
	var askers sync.WaitGroup
	for range 8 {
		askers.Go(func() {
			for range 200 {
				w, _, errno := check.Check(g, right)
				scribble(w.Edges, 5)
				_, place, no := check.Check(g, wrong)
				at, another := check.Claim(g, 3, 6, 0, right)
				if errno != api.OK || place != 1 || no != api.ErrBroken || at != 0 || another != api.ErrClaim {
					t.Errorf("P17.2: side by side: %d, %d, %d, %d, %d", errno, place, no, at, another)
				}
			}
		})
	}
	askers.Wait()
}
