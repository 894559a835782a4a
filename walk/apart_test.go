package walk_test

import (
	"slices"
	"testing"

	"bramble/api"
	"bramble/walk"
)

// lists: walks of between(10), with loops and without, and lists that are none.
func lists() [][]int {
	return [][]int{
		nil, by(0, 1), by(0, 0), by(0, 1, 2, 3), by(0, 1, 2, 0), by(0, 1, 2, 1, 3, 0, 4), by(0, 1, 2, 3, 4, 5, 2, 6), by(0, 1, 2, 3, 3),
		by(1, 2), {1, 1, 999, 1}, {2, 2},
	}
}

// roomy: the same list in the midst of other numbers, with spare room behind it; and all of that memory.
func roomy(es []int) ([]int, []int) {
	memory := slices.Concat([]int{-11, -12}, es, []int{-13, -14, -15, -16, -17, -18, -19, -20, -21, -22, -23, -24})
	return memory[2 : 2+len(es)], memory
}

// answers: all lists that are answered of es.
func answers(g walk.Records, es []int) [][]int {
	stops, _, _ := walk.Through(g, 0, es)
	simple, _, _ := walk.Simple(g, 0, es)
	return [][]int{stops, simple}
}

// scribble writes into a list and into its spare room.
func scribble(list []int) {
	list = list[:cap(list)]
	for i := range list {
		list[i] = -77
	}
}

func TestListStays(t *testing.T) {
	g := between(10)
	for _, es := range lists() {
		list, memory := roomy(es)
		was := slices.Clone(memory)
		walk.Follow(g, 0, list)
		for _, answer := range answers(g, list) {
			_ = append(answer, -77, -77, -77)
			if !slices.Equal(memory, was) {
				t.Fatalf("P8.3: behind an append the list of %v is %v", was, memory)
			}
			scribble(answer)
			if !slices.Equal(memory, was) {
				t.Fatalf("P8.3: behind the writing the list of %v is %v", was, memory)
			}
		}
	}
}

// While a call is under way the list stays too.
func TestListStaysMeanwhile(t *testing.T) {
	for _, es := range lists() {
		list, memory := roomy(es)
		was := slices.Clone(memory)
		g := between(10)
		look := looking{g, func() {
			if !slices.Equal(memory, was) {
				t.Fatalf("P8.3: meanwhile the list of %v is %v", was, memory)
			}
		}}
		walk.Follow(look, 0, list)
		answers(look, list)
	}
}

// looking: Records that look at something whenever they are asked.
type looking struct {
	book *book
	look func()
}

func (l looking) Edge(e int) (api.Edge, api.Errno) {
	l.look()
	return l.book.Edge(e)
}

// What is written into one answer is seen in no other one, of the same list or of others.
func TestAnswersApart(t *testing.T) {
	g := between(10)
	var all, was [][]int
	for range 2 {
		for _, es := range lists() {
			all = append(all, answers(g, es)...)
		}
	}
	for _, list := range all {
		was = append(was, slices.Clone(list))
	}
	for at, list := range all {
		scribble(list)
		for i := range was[at] {
			was[at][i] = -77
		}
		for other := range all {
			if !slices.Equal(all[other], was[other]) {
				t.Fatalf("P8.3: another list is %v, and was %v", all[other], was[other])
			}
		}
	}
}

// Nothing is kept: what is written into answers and lists isn't seen in later answers, nor does a later call change an answer.
func TestNothingIsKept(t *testing.T) {
	for _, es := range lists() {
		g := between(10)
		list, memory := roomy(es)
		first := answers(g, list)
		want := [][]int{slices.Clone(first[0]), slices.Clone(first[1])}
		scribble(memory)
		for _, other := range lists() {
			for _, answer := range answers(g, other) {
				scribble(answer)
			}
		}
		for i := range first {
			if !slices.Equal(first[i], want[i]) {
				t.Fatalf("P8.3: an answer of earlier is %v, and was %v", first[i], want[i])
			}
			scribble(first[i])
		}
		for i, again := range answers(g, es) {
			if !slices.Equal(again, want[i]) {
				t.Fatalf("P8.3: the same again: %v, not %v", again, want[i])
			}
		}
	}
}

// An answer may be handed in, as any list.
func TestAnswerHandedIn(t *testing.T) {
	g := between(10)
	simple, _, _ := walk.Simple(g, 0, by(0, 1, 2, 1, 3, 4, 4))
	again, _, errno := walk.Simple(g, 0, simple)
	if errno != api.OK || !slices.Equal(again, by(0, 1, 3, 4)) {
		t.Fatalf("P8.2: %v, %d", again, errno)
	}
	scribble(again)
	if !slices.Equal(simple, by(0, 1, 3, 4)) {
		t.Fatalf("P8.3: the list that was handed in is %v", simple)
	}
}

// Edges that are other ones at a later call are seen: records are asked for anew.
func TestRecordsAreAskedAnew(t *testing.T) {
	g := chapter()
	wantFollow(t, g, 5, []int{1, 3}, 5, 0x40a00000, 0, api.OK)
	g.edges[3] = edge(9, 8, 1)
	wantFollow(t, g, 5, []int{1, 3}, 8, 0x40000000, 0, api.OK)
	wantThrough(t, g, 5, []int{1, 3}, 5, 9, 8)
	wantSimple(t, g, 5, []int{1, 3}, 1, 3)
	delete(g.edges, 3)
	wantFault(t, g, 5, []int{1, 3}, 1, api.ErrNoEdge)
}
