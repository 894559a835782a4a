package cond_test

import (
	"math/rand/v2"
	"slices"
	"testing"

	"bramble/api"
)

// lists: all lists of numbers that can be asked for.
func (p *pair) lists() [][]int {
	all := [][]int{p.c.Heads()}
	for _, v := range slices.Concat(p.g.vs, p.others) {
		all = append(all, p.c.Members(v))
	}
	return all
}

// scribble writes into a list and into its spare room.
func scribble[T any](list []T, thing T) {
	list = list[:cap(list)]
	for i := range list {
		list[i] = thing
	}
}

// spoil asks for all lists, appends to them and writes into them.
func (p *pair) spoil() {
	for _, list := range p.lists() {
		_ = append(list, -77)
		_ = append(list, -77, -77, -77)
		scribble(list, -77)
	}
	arcs := p.c.Arcs()
	_ = append(arcs, api.Arc{U: -77, V: -78})
	scribble(arcs, api.Arc{U: -77, V: -78})
}

// several makes drawn edits of graphs of several sizes, and does this behind every single one.
func several(t *testing.T, behind func(p *pair)) {
	t.Helper()
	r := rand.New(rand.NewPCG(10, 6))
	for turn := range 40 {
		n := 1 + turn%12
		p := newPair(t, -1, n)
		behind(p)
		for v := range n {
			p.addVertex(v)
			behind(p)
		}
		for range 5 * n {
			if r.IntN(4) > 0 {
				p.addArc(r.IntN(2*n), r.IntN(n), r.IntN(n))
			} else {
				p.dropArc(r.IntN(2 * n))
			}
			behind(p)
		}
		for e := range 2 * n {
			p.dropArc(e)
			behind(p)
		}
		for v := range n {
			p.dropVertex(v)
			behind(p)
		}
	}
}

// What is written into a list, or appended to it, is seen in no later answer, whatever edits come.
func TestWritingIsNotSeen(t *testing.T) {
	several(t, func(p *pair) {
		p.spoil()
		p.compare(0, p.c.Looked())
	})
}

// A list that was answered stays as it was, whatever is asked, written and edited behind it.
func TestAnswersStay(t *testing.T) {
	var kept, was [][]int
	var keptArcs, wereArcs [][]api.Arc
	several(t, func(p *pair) {
		for i := range kept {
			if !slices.Equal(kept[i], was[i]) {
				p.fail("P10.3: a list of earlier is %v, and was %v", kept[i], was[i])
			}
		}
		for i := range keptArcs {
			if !slices.Equal(keptArcs[i], wereArcs[i]) {
				p.fail("P10.3: Arcs of earlier are %v, and were %v", keptArcs[i], wereArcs[i])
			}
		}
		if len(kept) > 300 {
			kept, was, keptArcs, wereArcs = nil, nil, nil, nil
		}
		for _, list := range p.lists() {
			kept, was = append(kept, list), append(was, slices.Clone(list))
		}
		arcs := p.c.Arcs()
		keptArcs, wereArcs = append(keptArcs, arcs), append(wereArcs, slices.Clone(arcs))
		p.spoil()
	})
}

// Two answers share no memory, spare room included: what is written into the one isn't seen in the other.
func TestAnswersApart(t *testing.T) {
	several(t, func(p *pair) {
		first, second := p.lists(), p.lists()
		for i := range first {
			want := slices.Clone(second[i])
			_ = append(first[i], -77, -78)
			scribble(first[i], -77)
			if !slices.Equal(second[i], want) {
				p.fail("P10.3: another answer is %v, and was %v", second[i], want)
			}
			long := append(second[i], -79)
			scribble(first[i], -77)
			if long[len(want)] != -79 {
				p.fail("P10.3: two answers share their spare room")
			}
		}
		one, other := p.c.Arcs(), p.c.Arcs()
		scribble(one, api.Arc{U: -77, V: -77})
		if !slices.Equal(other, p.now.arcs) {
			p.fail("P10.3: another answer is %v, not %v", other, p.now.arcs)
		}
	})
}
