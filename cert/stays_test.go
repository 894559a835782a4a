package cert_test

import (
	"math/rand/v2"
	"reflect"
	"slices"
	"sync"
	"testing"

	"bramble/api"
	"bramble/cert"
)

const ahead, room = 2, 9

// roomy: the same list in the midst of other things, with spare room behind it; and all of that memory.
func roomy[T any](list []T, other T) (given, whole []T) {
	whole = slices.Concat(slices.Repeat([]T{other}, ahead), list, slices.Repeat([]T{other}, room))
	return whole[ahead : ahead+len(list)], whole
}

// handed: all that the three calls are handed, in such memory.
type handed struct {
	vs, wholeVs       []int
	arcs, wholeArcs   []api.Arc
	es, wholeEs       []api.Edge
	comps, wholeComps [][]int
	ls, wholeLs       []api.Label
	dists, wholeDists []api.Dist
	source            int
	// Of each list of comps, and of each label's runs.
	wholeLists [][]int
	wholeRuns  [][]api.Span
}

func handedOf(c claim) *handed {
	h := &handed{source: c.tree.Source}
	h.vs, h.wholeVs = roomy(c.g.vs, -77)
	h.arcs, h.wholeArcs = roomy(c.g.arcs(), api.Arc{U: -77, V: -77})
	h.es, h.wholeEs = roomy(c.g.es, edge(-77, -77, -77, 77))
	h.comps, h.wholeComps = roomy(c.comps, []int{-77})
	for i, comp := range h.comps {
		given, whole := roomy(comp, -77)
		h.comps[i], h.wholeLists = given, append(h.wholeLists, whole)
	}
	h.ls, h.wholeLs = roomy(c.ls, label(-77, -77, -77, 77))
	for i, l := range h.ls {
		given, whole := roomy(l.Runs, api.Span{Lo: -77, Hi: 77})
		h.ls[i].Runs, h.wholeRuns = given, append(h.wholeRuns, whole)
	}
	h.dists, h.wholeDists = roomy(c.tree.Dists, dist(-77, 77, -77))
	return h
}

// several: claims that are right and wrong, of lists that are good and aren't.
func several() []claim {
	r := rand.New(rand.NewPCG(15, 21))
	list := []claim{{}, accepted()}
	for n := 1; n < 12; n++ {
		for range 3 {
			k := know(alike(r, drawn(r, n, n)))
			c := claim{k.g, shuffle(r, k.comps), wider(r, k, k.labels()), k.tree(k.g.vs[0])}
			c.tree.Dists = shuffle(r, c.tree.Dists)
			list = append(list, c)
			// A component's vertices may fall in number, a label's Post be another, and a Dist's Edge.
			wrong := claim{c.g, slices.Clone(c.comps), slices.Clone(c.ls), api.Tree{Source: c.tree.Source, Dists: slices.Clone(c.tree.Dists)}}
			wrong.comps[0] = wrong.comps[0][1:]
			wrong.ls[n-1].Post = -5
			wrong.tree.Dists[n-1].Edge = 999
			list = append(list, wrong)
			faulty := c
			faulty.g.vs = append(slices.Clone(c.g.vs), c.g.vs[0])
			list = append(list, faulty)
			faulty = c
			faulty.g.es = append(slices.Clone(c.g.es), edge(0, 1000, 1000, plusInf))
			list = append(list, faulty)
		}
	}
	return list
}

// answers: of the three calls.
func (h *handed) answers() [3]bool {
	return [3]bool{cert.Parts(h.vs, h.arcs, h.comps), cert.Labels(h.vs, h.arcs, h.ls), cert.Tree(h.vs, h.es, api.Tree{Source: h.source, Dists: h.dists})}
}

// What is handed in stays, spare room too; also where the answer is false.
func TestListsStay(t *testing.T) {
	var seen both
	for _, c := range several() {
		h, was := handedOf(c), handedOf(c)
		got := h.answers()
		if !reflect.DeepEqual(h, was) {
			t.Fatalf("P15.3: behind the calls the lists are %v, and were %v", h, was)
		}
		k := know(c.g)
		if want := [3]bool{k.rightParts(c.comps), k.rightLabels(c.ls), k.rightTree(c.tree)}; got != want {
			t.Fatalf("P15.1: of %v: %v, not %v", c, got, want)
		}
		for _, answer := range got {
			seen.count(answer)
		}
	}
	seen.look(t, 90)
}

// Each call alone: what it is handed stays.
func TestListsStayBehindEach(t *testing.T) {
	for _, c := range several() {
		was := handedOf(c)
		for _, call := range []func(h *handed){
			func(h *handed) { cert.Parts(h.vs, h.arcs, h.comps) },
			func(h *handed) { cert.Labels(h.vs, h.arcs, h.ls) },
			func(h *handed) { cert.Tree(h.vs, h.es, api.Tree{Source: h.source, Dists: h.dists}) },
		} {
			h := handedOf(c)
			call(h)
			if !reflect.DeepEqual(h, was) {
				t.Fatalf("P15.3: the lists are %v, and were %v", h, was)
			}
		}
	}
}

// Nothing is kept: neither what was asked before nor what is written into the lists afterwards shows in an answer.
func TestNothingIsKept(t *testing.T) {
	claims := several()
	var want [][3]bool
	for _, c := range claims {
		h := handedOf(c)
		want = append(want, h.answers())
		slices.Reverse(h.wholeVs)
		clear(h.wholeArcs)
		clear(h.wholeEs)
		clear(h.wholeComps)
		clear(h.wholeLs)
		clear(h.wholeDists)
	}
	for i, c := range slices.Backward(claims) {
		h := handedOf(c)
		for range 2 {
			if got := h.answers(); got != want[i] {
				t.Fatalf("P15.1: of %v: %v, and before %v", c, got, want[i])
			}
		}
	}
}

// One list may be handed in in several places, and lists may share memory.
func TestSharedLists(t *testing.T) {
	vs := []int{3, 1, 2}
	if !cert.Parts(vs, []api.Arc{{U: 1, V: 2}, {U: 2, V: 3}, {U: 3, V: 1}}, [][]int{vs}) {
		t.Error("P15.1: the vertices as their own component")
	}
	if !cert.Parts(vs, nil, [][]int{vs[2:], vs[:1], vs[1:2]}) {
		t.Error("P15.1: pieces of the vertices as components")
	}
	runs := []api.Span{{Lo: 5, Hi: 5}, {Lo: 1, Hi: 2}}
	ring := []api.Arc{{U: 1, V: 2}, {U: 2, V: 1}, {U: 1, V: 3}, {U: 3, V: 1}}
	if !cert.Labels(vs, ring, []api.Label{{V: 2, Post: 1, Runs: runs}, {V: 1, Post: 2, Runs: runs}, {V: 3, Post: 5, Runs: runs}}) {
		t.Error("P15.1: labels with one list of runs")
	}
	if !slices.Equal(vs, []int{3, 1, 2}) || !slices.Equal(runs, []api.Span{{Lo: 5, Hi: 5}, {Lo: 1, Hi: 2}}) {
		t.Errorf("P15.3: the lists are %v, %v", vs, runs)
	}
}

// The calls write into nothing that they are handed, so several may be made of the same lists at once.
func TestSideBySide(t *testing.T) {
	h := handedOf(accepted())
	var group sync.WaitGroup
	for range 8 {
		group.Go(func() {
			for range 200 {
				if got := h.answers(); got != [3]bool{true, true, true} {
					t.Errorf("P15.1: side by side: %v", got)
				}
			}
		})
	}
	group.Wait()
}
