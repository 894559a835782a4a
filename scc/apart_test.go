package scc_test

import (
	"math/rand/v2"
	"slices"
	"testing"

	"bramble/api"
	"bramble/scc"
)

// several: graphs of all kinds, with faults too.
func several() []plain {
	r := rand.New(rand.NewPCG(9, 6))
	list := []plain{
		{}, {vs: []int{8}}, {[]int{8}, arcsOf(8, 8)}, {vs: []int{3, 2, 1}}, {vs: []int{1, 2, 3}},
		{[]int{7, 1, 4, 9}, arcsOf(4, 9, 9, 4, 4, 1, 7, 7)},
		{[]int{1, 2, 3, 4, 5, 6}, arcsOf(1, 2, 2, 1, 3, 4, 4, 3, 5, 6, 6, 5, 5, 1)},
		{[]int{2, 1, 2}, arcsOf(1, 2)}, {[]int{2, 1}, arcsOf(1, 3)}, {[]int{2, 2}, arcsOf(9, 9)},
	}
	for n := 1; n < 30; n++ {
		list = append(list, drawn(r, n, n), drawnAcyclic(r, n, 2*n))
	}
	return list
}

// memory: lists in the midst of other things, with spare room behind them.
type memory struct {
	numbers []int
	arcs    []api.Arc
}

const edge, room = 2, 40

// roomy: the same graph in such memory.
func roomy(g plain) (plain, memory) {
	numbers := slices.Concat(slices.Repeat([]int{-11}, edge), g.vs, slices.Repeat([]int{-13}, room))
	arcs := slices.Concat(slices.Repeat(arcsOf(-11, -12), edge), g.arcs, slices.Repeat(arcsOf(-13, -14), room))
	return plain{numbers[edge : edge+len(g.vs)], arcs[edge : edge+len(g.arcs)]}, memory{numbers, arcs}
}

func (m memory) clone() memory { return memory{slices.Clone(m.numbers), slices.Clone(m.arcs)} }

func (m memory) equal(other memory) bool {
	return slices.Equal(m.numbers, other.numbers) && slices.Equal(m.arcs, other.arcs)
}

// lists: all lists of numbers that the answers of a graph hold.
func lists(g plain) [][]int {
	comps, _ := scc.Of(g.vs, g.arcs)
	order, _ := scc.Order(g.vs, g.arcs)
	return append(slices.Clone(comps), order)
}

// scribble writes into a list and into its spare room.
func scribble(list []int) {
	list = list[:cap(list)]
	for i := range list {
		list[i] = -77
	}
}

func TestListsStay(t *testing.T) {
	for _, g := range several() {
		given, whole := roomy(g)
		was := whole.clone()
		scc.Acyclic(given.vs, given.arcs)
		for _, list := range lists(given) {
			if !whole.equal(was) {
				t.Fatalf("P9.3: behind the calls the lists of %v are %v", g, whole)
			}
			_ = append(list, -77, -77, -77)
			scribble(list)
			if !whole.equal(was) {
				t.Fatalf("P9.3: behind the writing the lists of %v are %v", g, whole)
			}
		}
	}
}

// What is appended to, or written into, one answered list is seen in no other one, of the same answer or of others.
func TestAnswersApart(t *testing.T) {
	for _, g := range several() {
		all := append(lists(g), lists(g)...)
		var was [][]int
		for _, list := range all {
			was = append(was, slices.Clone(list))
		}
		look := func(what string) {
			for other := range all {
				if !slices.Equal(all[other], was[other]) {
					t.Fatalf("P9.3: behind %s another list is %v, and was %v", what, all[other], was[other])
				}
			}
		}
		for _, list := range all {
			_ = append(list, -77)
			_ = append(list, -77, -77, -77)
			look("an append")
		}
		for at, list := range all {
			scribble(list)
			was[at] = slices.Repeat([]int{-77}, len(was[at]))
			look("the writing")
		}
	}
}

// The list of components is apart from another answer's too.
func TestListsOfListsApart(t *testing.T) {
	for _, g := range several() {
		first, _ := scc.Of(g.vs, g.arcs)
		second, _ := scc.Of(g.vs, g.arcs)
		want := judge(g).comps
		first = first[:cap(first)]
		for i := range first {
			first[i] = []int{-77}
		}
		if !slices.EqualFunc(second, want, slices.Equal) {
			t.Fatalf("P9.3: another answer of %v is %v", g, second)
		}
	}
}

// Nothing is kept: neither what is written into the lists that were handed in, nor into answers, changes an answer.
func TestNothingIsKept(t *testing.T) {
	for _, g := range several() {
		given, whole := roomy(g)
		want := judge(g)
		got := ask(t, given)
		for i := range whole.numbers {
			whole.numbers[i] = -77
		}
		for i := range whole.arcs {
			whole.arcs[i] = api.Arc{U: -77, V: -77}
		}
		for _, other := range several()[:12] {
			for _, list := range lists(other) {
				scribble(list)
			}
		}
		if !got.equal(want) {
			t.Fatalf("P9.3: an answer of earlier is %v, not %v", got, want)
		}
		for _, list := range append(got.comps, got.order) {
			scribble(list)
		}
		if again := ask(t, g); !again.equal(want) {
			t.Fatalf("P9.3: the same again: %v, not %v", again, want)
		}
	}
}

// An answer may be handed in, as any list.
func TestAnswersHandedIn(t *testing.T) {
	g := plain{[]int{7, 1, 4, 9}, arcsOf(4, 9, 9, 4, 4, 1, 7, 7)}
	order, _ := scc.Order(g.vs, g.arcs)
	want(t, plain{order, arcsOf(4, 1)}, [][]int{{1}, {4}, {7}}, []int{4, 1, 7}, true)
	if !slices.Equal(order, []int{4, 1, 7}) {
		t.Errorf("P9.3: the list that was handed in is %v", order)
	}
	comps, _ := scc.Of(g.vs, g.arcs)
	want(t, plain{comps[1], arcsOf(9, 4)}, [][]int{{4}, {9}}, []int{9, 4}, true)
	if !slices.Equal(comps[1], []int{4, 9}) {
		t.Errorf("P9.3: the list that was handed in is %v", comps[1])
	}
}
