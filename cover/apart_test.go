package cover_test

import (
	"math/rand/v2"
	"slices"
	"testing"

	"bramble/api"
	"bramble/cover"
)

// scribble writes into a list and into its spare room.
func scribble[T any](list []T, thing T) {
	list = list[:cap(list)]
	for i := range list {
		list[i] = thing
	}
}

// several does this behind Build and behind each Grow of graphs of several sizes.
func several(t *testing.T, behind func(p *pair)) {
	t.Helper()
	r := rand.New(rand.NewPCG(11, 6))
	for turn := range 60 {
		n := turn % 15
		arcs := drawn(r, n, 2*n)
		p := build(t, n, arcs[:len(arcs)/2])
		behind(p)
		for _, arc := range arcs[len(arcs)/2:] {
			p.grow(arc.U, arc.V)
			behind(p)
		}
		p.grow(n, 0)
		behind(p)
	}
}

// What is written into a label, or appended to it, is seen in no later answer.
func TestWritingIsNotSeen(t *testing.T) {
	several(t, func(p *pair) {
		for v := -1; v <= p.g.n; v++ {
			label := p.c.Label(v)
			_ = append(label, api.Span{Lo: -77, Hi: 77})
			_ = append(label, api.Span{Lo: -77, Hi: 77}, api.Span{Lo: -78, Hi: 78})
			scribble(label, api.Span{Lo: -77, Hi: 77})
			p.compare()
		}
	})
}

// A label that was answered stays as it was, whatever is asked, written and grown behind it.
func TestAnswersStay(t *testing.T) {
	var kept, was [][]api.Span
	several(t, func(p *pair) {
		for _, label := range p.allLabels() {
			kept, was = append(kept, label), append(was, slices.Clone(label))
		}
		for _, label := range p.allLabels() {
			_ = append(label, api.Span{Lo: -77, Hi: 77})
			scribble(label, api.Span{Lo: -77, Hi: 77})
		}
	})
	for i := range kept {
		if !slices.Equal(kept[i], was[i]) {
			t.Fatalf("P11.3: an answer of earlier is %v, and was %v", kept[i], was[i])
		}
	}
	for i := range kept {
		scribble(kept[i], api.Span{Lo: -77, Hi: 77})
		if i > 0 && !slices.Equal(kept[i-1], slices.Repeat([]api.Span{{Lo: -77, Hi: 77}}, len(was[i-1]))) {
			t.Fatalf("P11.3: the answer ahead is %v", kept[i-1])
		}
		if i+1 < len(kept) && !slices.Equal(kept[i+1], was[i+1]) {
			t.Fatalf("P11.3: the answer behind is %v, and was %v", kept[i+1], was[i+1])
		}
	}
}

// What is handed in stays, spare room included, also where Build refuses it; and it isn't kept.
func TestArcsStay(t *testing.T) {
	r := rand.New(rand.NewPCG(11, 7))
	for turn := range 200 {
		n := 1 + turn%15
		arcs := drawn(r, n, 2*n)
		switch turn % 4 {
		case 1:
			arcs = append(arcs, api.Arc{U: n, V: 0})
		case 2:
			arcs = append(arcs, api.Arc{U: 0, V: 0})
		case 3:
			slices.Reverse(arcs)
		}
		around := slices.Repeat(arcsOf(-11, 11), 3)
		whole := slices.Concat(around, arcs, slices.Repeat(around, 20))
		was := slices.Clone(whole)
		given := whole[len(around) : len(around)+len(arcs)]
		c, errno := cover.Build(n, given)
		if !slices.Equal(whole, was) {
			t.Fatalf("P11.3: behind Build(%d, %v) the list is %v", n, arcs, whole)
		}
		p := build(t, n, given)
		if p == nil {
			if c != nil || errno == api.OK {
				t.Fatalf("P11.1: Build(%d, %v): %v, %d", n, arcs, c, errno)
			}
			continue
		}
		p.c = c
		scribble(whole, api.Arc{U: 0, V: n - 1})
		p.compare()
		p.grow(r.IntN(n), r.IntN(n))
		if !slices.Equal(whole, slices.Repeat(arcsOf(0, n-1), len(whole))) {
			t.Fatalf("P11.3: Grow wrote into the list that Build was given: %v", whole)
		}
	}
}

// Two covers of one list have nothing in common.
func TestCoversApart(t *testing.T) {
	arcs := arcsOf(0, 2, 1, 2, 2, 3, 1, 4)
	p, q := build(t, 5, arcs), build(t, 5, arcs)
	p.wantGrow(3, 4, api.OK)
	q.compare()
	q.wantGrow(4, 0, api.OK)
	p.compare()
	p.wantGrow(4, 0, api.ErrCycle)
	q.wantGrow(3, 4, api.ErrCycle)
}
