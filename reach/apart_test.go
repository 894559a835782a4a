package reach_test

import (
	"math/rand/v2"
	"slices"
	"testing"

	"bramble/api"
	"bramble/reach"
)

// lists: all lists of numbers that can be asked for.
func lists(x *reach.Index, asked []int) [][]int {
	all := [][]int{x.Heads()}
	for _, u := range asked {
		all = append(all, x.Members(u))
		for _, v := range asked {
			walk, _ := x.Walk(u, v)
			all = append(all, walk)
		}
	}
	return all
}

// labels: all lists of runs that can be asked for.
func labels(x *reach.Index, asked []int) [][]api.Span {
	var all [][]api.Span
	for _, v := range asked {
		all = append(all, x.Label(v))
	}
	return all
}

// scribble appends to a list, and writes into it and its spare room.
func scribble[T any](list []T, thing T) {
	_ = append(list, thing)
	_ = append(list, thing, thing, thing)
	list = list[:cap(list)]
	for i := range list {
		list[i] = thing
	}
}

func scribbleAll[T any](lists [][]T, thing T) {
	for _, list := range lists {
		scribble(list, thing)
	}
}

func (p *pair) spoil() {
	scribbleAll(lists(p.x, p.asked()), -77)
	scribbleAll(labels(p.x, p.asked()), api.Span{Lo: -77, Hi: 77})
}

// several makes drawn edits of graphs of several sizes, and does this behind every single one.
func several(t *testing.T, behind func(p *pair)) {
	t.Helper()
	r := rand.New(rand.NewPCG(12, 7))
	for turn := range 16 {
		n := 1 + turn%8
		p := newPair(t, -1, n)
		behind(p)
		for v := range n {
			p.addVertex(v)
			behind(p)
		}
		for range 5 * n {
			if r.IntN(4) > 0 {
				p.addArc(r.IntN(2*n), r.IntN(n), r.IntN(n))
			} else {
				p.dropArc(r.IntN(2 * n))
			}
			behind(p)
		}
		for e := range 2 * n {
			p.dropArc(e)
			behind(p)
		}
		for v := range n {
			p.dropVertex(v)
			behind(p)
		}
	}
}

// What is written into a list, or appended to it, is seen in no later answer, whatever edits come.
func TestWritingIsNotSeen(t *testing.T) {
	several(t, func(p *pair) {
		was := p.now
		p.spoil()
		p.compare()
		if !p.now.same(ask(p.quiet, p.asked())) {
			p.fail("P12.3: behind what was written into lists, it tells %v, not %v", p.now, was)
		}
	})
}

// kept: lists of earlier, and what was in them.
type kept[T comparable] struct {
	lists, were [][]T
}

func (k *kept[T]) keep(lists [][]T) {
	for _, list := range lists {
		k.lists, k.were = append(k.lists, list), append(k.were, slices.Clone(list))
	}
}

func (k *kept[T]) stay() bool { return slices.EqualFunc(k.lists, k.were, slices.Equal) }

// A list that was answered stays as it was, whatever is asked, written and edited behind it.
func TestAnswersStay(t *testing.T) {
	var ints kept[int]
	var runs kept[api.Span]
	several(t, func(p *pair) {
		if !ints.stay() || !runs.stay() {
			p.fail("P12.3: lists of earlier are %v and %v, and were %v and %v", ints.lists, runs.lists, ints.were, runs.were)
		}
		if len(ints.lists) > 500 {
			ints, runs = kept[int]{}, kept[api.Span]{}
		}
		ints.keep(lists(p.x, p.asked()))
		runs.keep(labels(p.x, p.asked()))
		p.spoil()
	})
}

// apart: is what is written into the one list and its spare room not seen in the other, nor what is appended to the one behind the other?
func apart[T comparable](one, other []T, thing, another T) bool {
	want := slices.Clone(other)
	scribble(one, thing)
	if !slices.Equal(other, want) {
		return false
	}
	long := append(other, another)
	scribble(one, thing)
	return long[len(want)] == another
}

// Two answers share no memory, spare room included.
func TestAnswersApart(t *testing.T) {
	several(t, func(p *pair) {
		first, second := lists(p.x, p.asked()), lists(p.x, p.asked())
		for i := range first {
			if !apart(first[i], second[i], -77, -78) {
				p.fail("P12.3: two answers share memory: %v", second[i])
			}
		}
		runs, others := labels(p.x, p.asked()), labels(p.x, p.asked())
		for i := range runs {
			if !apart(runs[i], others[i], api.Span{Lo: -77}, api.Span{Lo: -78}) {
				p.fail("P12.3: two labels share memory: %v", others[i])
			}
		}
	})
}

// Vertices of one component have one label, and each answer of it is a list of its own.
func TestLabelsOfOneComponentApart(t *testing.T) {
	p := newPair(t)
	p.addVertices(1, 2, 3, 4, 5)
	p.closeRing(1, []int{1, 4})
	p.addArcs(9, 4, 3, 8, 2, 5)
	if !apart(p.x.Label(1), p.x.Label(4), api.Span{Lo: -77}, api.Span{Lo: -78}) {
		p.fail("P12.3: two labels share memory")
	}
	if !apart(p.x.Members(1), p.x.Members(4), -77, -78) {
		p.fail("P12.3: two lists of members share memory")
	}
	p.compare()
}
