package witness_test

import (
	"bytes"
	"slices"
	"sync"
	"testing"

	"bramble/api"
	"bramble/witness"
)

const ahead, room = 2, 2100

// roomy: the same list in the midst of other things, with spare room behind it; and all of that memory.
func roomy[T any](list []T, other T) (given, whole []T) {
	whole = slices.Concat(slices.Repeat([]T{other}, ahead), list, slices.Repeat([]T{other}, room))
	return whole[ahead : ahead+len(list)], whole
}

// scribble writes into a list and into its spare room.
func scribble[T any](list []T, other T) {
	list = list[:cap(list)]
	for i := range list {
		list[i] = other
	}
}

// wrongWitnesses: such as Encode refuses.
func wrongWitnesses() []api.Witness {
	return []api.Witness{{From: -1, Edges: []int{1, 2}}, {To: 1 << 31, Edges: edges(9)}, {Edges: []int{1, 0, 5}}, {Edges: []int{1025}}, {Edges: edges(1025)}}
}

func TestListOfEdgesStays(t *testing.T) {
	for _, w := range slices.Concat(several(), wrongWitnesses()) {
		var memory []int
		w.Edges, memory = roomy(w.Edges, -77)
		was := slices.Clone(memory)
		b, _ := witness.Encode(w)
		if !slices.Equal(memory, was) {
			t.Fatalf("P16.2: behind Encode the edges are %v", w.Edges)
		}
		scribble(append(b, 1, 2, 3), 77)
		scribble(b, 77)
		if !slices.Equal(memory, was) {
			t.Fatalf("P16.2: behind the writing the edges are %v", w.Edges)
		}
	}
}

// wrongBytes: such as Decode refuses, some at their end only.
func wrongBytes() [][]byte {
	b := bytesOf(example())
	long := bytesOf(api.Witness{Edges: edges(1024)})
	return [][]byte{nil, {182}, b[:len(b)-1], append(slices.Clone(b), 0), long[:len(long)-1], with(example(), atFrom, 133, 0), with(example(), atEdges+1, 0), with(example(), atTo, 128, 128, 128, 128, 8)}
}

// allBytes: of witnesses, and such as are none's.
func allBytes() [][]byte {
	list := wrongBytes()
	for _, w := range several() {
		list = append(list, bytesOf(w))
	}
	return list
}

func TestBytesStay(t *testing.T) {
	for _, b := range allBytes() {
		given, memory := roomy(b, 1)
		was := bytes.Clone(memory)
		w, _ := witness.Decode(given)
		if !bytes.Equal(memory, was) {
			t.Fatalf("P16.2: behind Decode the bytes are %v", head(given))
		}
		scribble(append(w.Edges, 1, 2, 3), 77)
		scribble(w.Edges, 77)
		if !bytes.Equal(memory, was) {
			t.Fatalf("P16.2: behind the writing the bytes are %v", head(given))
		}
	}
}

// What stands in the spare room, and ahead of what is handed in, changes no answer.
func TestRoomIsNotRead(t *testing.T) {
	for _, b := range allBytes() {
		for _, other := range []byte{0, 1, 128, 183, 255} {
			given, _ := roomy(b, other)
			tryDecode(t, given)
		}
	}
	for _, w := range slices.Concat(several(), wrongWitnesses()) {
		for _, other := range []int{-1, 0, 1, 1024, 1025} {
			w.Edges, _ = roomy(w.Edges, other)
			tryEncode(t, w)
		}
	}
}

// What is written into the edges later isn't seen in bytes that were answered.
func TestEdgesAreNotKept(t *testing.T) {
	for _, w := range several() {
		want := bytesOf(w)
		var memory []int
		w.Edges, memory = roomy(w.Edges, -77)
		b, _ := witness.Encode(w)
		scribble(memory, 5)
		if !bytes.Equal(b, want) {
			t.Fatalf("P16.2: the bytes are %v, and were %v", head(b), head(want))
		}
	}
}

// What is written into the bytes later isn't seen in a witness that was answered.
func TestBytesAreNotKept(t *testing.T) {
	for _, want := range several() {
		given, memory := roomy(bytesOf(want), 1)
		w, _ := witness.Decode(given)
		scribble(memory, 5)
		if !same(w, want) {
			t.Fatalf("P16.2: the witness is %v, and was %v", w, want)
		}
	}
}

// Answers of the same and of other calls share nothing.
func TestAnswersApart(t *testing.T) {
	var texts, textsWere [][]byte
	var lists, listsWere [][]int
	for range 2 {
		for _, w := range several() {
			b, _ := witness.Encode(w)
			back, _ := witness.Decode(b)
			again, _ := witness.Decode(b)
			texts, lists = append(texts, b), append(lists, back.Edges, again.Edges)
		}
	}
	for _, b := range texts {
		textsWere = append(textsWere, bytes.Clone(b))
	}
	for _, list := range lists {
		listsWere = append(listsWere, slices.Clone(list))
	}
	for at := range texts {
		scribble(texts[at], 77)
		scribble(textsWere[at], 77)
		wantAlike(t, texts, textsWere)
	}
	for at := range lists {
		scribble(lists[at], -77)
		scribble(listsWere[at], -77)
		wantAlike(t, lists, listsWere)
	}
	wantAlike(t, texts, textsWere)
}

func wantAlike[T comparable](t *testing.T, lists, want [][]T) {
	t.Helper()
	for i := range lists {
		if !slices.Equal(lists[i], want[i]) {
			t.Fatalf("P16.2: an answer of earlier is %v, not %v", lists[i], want[i])
		}
	}
}

// The same calls behind one another, with answers written into in between.
func TestTheSameAgain(t *testing.T) {
	for _, w := range several() {
		for range 3 {
			b, errno := witness.Encode(w)
			if errno != api.OK || !bytes.Equal(b, bytesOf(w)) {
				t.Fatalf("P16.2: the same again: %v, %d", head(b), errno)
			}
			back, errno := witness.Decode(b)
			if errno != api.OK || !same(back, w) {
				t.Fatalf("P16.2: the same again: %v, %d", back, errno)
			}
			scribble(b, 77)
			scribble(back.Edges, -77)
		}
	}
}

// Several may ask at once of the same lists, since nothing is kept or written.
func TestSideBySide(t *testing.T) {
	all := several()
	var askers sync.WaitGroup
	for range 8 {
		askers.Go(func() {
			for _, w := range all {
				b, errno := witness.Encode(w)
				if errno != api.OK || !bytes.Equal(b, bytesOf(w)) {
					t.Errorf("P16.2: side by side: %v, %d", head(b), errno)
				}
				back, errno := witness.Decode(b)
				if _, none := witness.Decode(b[:len(b)-1]); none != api.ErrWitness || errno != api.OK || !same(back, w) {
					t.Errorf("P16.2: side by side: %v, %d, %d", back, errno, none)
				}
			}
		})
	}
	askers.Wait()
}
