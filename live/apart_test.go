package live_test

import (
	"math/rand/v2"
	"slices"
	"testing"

	"bramble/api"
)

// lists: all lists of numbers that can be asked for.
func (p *pair) lists() [][]int {
	all := [][]int{p.x.Reached()}
	for _, v := range p.others {
		path, _ := p.x.Path(v)
		all = append(all, path)
	}
	return all
}

// scribble writes into a list and into its spare room.
func scribble[T any](list []T, thing T) {
	list = list[:cap(list)]
	for i := range list {
		list[i] = thing
	}
}

// stain: what stands in no answer.
func stain() api.Dist { return api.Dist{V: -77, Far: true, Bits: 77, Edge: -77} }

// spoil asks for all lists, appends to them and writes into them.
func (p *pair) spoil() {
	for _, list := range p.lists() {
		_ = append(list, -77)
		_ = append(list, -77, -77, -77)
		scribble(list, -77)
	}
	dists := p.x.Dists()
	_ = append(dists, stain())
	scribble(dists, stain())
}

// several makes drawn edits of graphs of several sizes, and does this behind every single one.
func several(t *testing.T, behind func(p *pair)) {
	t.Helper()
	r := rand.New(rand.NewPCG(14, 9))
	for turn := range 30 {
		n := 1 + turn%9
		p := newPair(t, 0, -1, n).wide()
		behind(p)
		for v := range n {
			p.others = append(p.others, v)
			p.addVertex(v)
			behind(p)
		}
		for range 6 * n {
			drawnCall(r, n)(p)
			behind(p)
		}
		for e := range 2*n + 3 {
			p.delete(e)
			behind(p)
		}
		for v := range n {
			p.dropVertex(v)
			behind(p)
		}
	}
}

// What is written into a list, or appended to it, is seen in no later answer, whatever edits come.
func TestWritingIsNotSeen(t *testing.T) {
	several(t, func(p *pair) {
		p.spoil()
		p.compare()
	})
}

// A list that was answered stays as it was, whatever is asked, written and edited behind it.
func TestAnswersStay(t *testing.T) {
	var kept, was [][]int
	var keptDists, wereDists [][]api.Dist
	several(t, func(p *pair) {
		for i := range kept {
			if !slices.Equal(kept[i], was[i]) {
				p.fail("P14.4: a list of earlier is %v, and was %v", kept[i], was[i])
			}
		}
		for i := range keptDists {
			if !slices.Equal(keptDists[i], wereDists[i]) {
				p.fail("P14.4: Dists of earlier are %v, and were %v", keptDists[i], wereDists[i])
			}
		}
		if len(kept) > 300 {
			kept, was, keptDists, wereDists = nil, nil, nil, nil
		}
		for _, list := range p.lists() {
			kept, was = append(kept, list), append(was, slices.Clone(list))
		}
		dists := p.x.Dists()
		keptDists, wereDists = append(keptDists, dists), append(wereDists, slices.Clone(dists))
		p.spoil()
	})
}

// apart: what is written into the one list, or into its spare room, isn't seen in the other or in what is appended to it.
func apart[T comparable](p *pair, first, second []T, thing, other T) {
	p.t.Helper()
	want := slices.Clone(second)
	_ = append(first, thing, thing)
	scribble(first, thing)
	if !slices.Equal(second, want) {
		p.fail("P14.4: another answer is %v, and was %v", second, want)
	}
	long := append(second, other)
	scribble(first, thing)
	if long[len(want)] != other {
		p.fail("P14.4: two answers share their spare room")
	}
}

// Two answers share no memory, spare room included.
func TestAnswersApart(t *testing.T) {
	several(t, func(p *pair) {
		first, second := p.lists(), p.lists()
		for i := range first {
			apart(p, first[i], second[i], -77, -79)
		}
		// The paths of one turn neither, though they hang together.
		lists := p.lists()
		for i := range lists {
			for j := range lists[:i] {
				apart(p, lists[i], lists[j], -77, -79)
				apart(p, lists[j], lists[i], -77, -79)
			}
		}
		apart(p, p.x.Dists(), p.x.Dists(), stain(), api.Dist{V: -79})
	})
}

// Two things know nothing of each other, be they made alike.
func TestThingsApart(t *testing.T) {
	first, second := newPair(t, 1, 2), newPair(t, 1, 2)
	first.addVertices(2)
	second.compare()
	second.addVertices(2)
	first.insertAll(edge(1, 1, 2, 1))
	second.compare()
	second.insertAll(edge(1, 2, 1, 5), edge(2, 1, 2, 7))
	first.compare()
	first.delete(1)
	second.compare()
	second.reweigh(2, 0)
	first.compare()
}
