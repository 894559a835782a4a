package scc_test

import (
	"math"
	"slices"
	"testing"

	"bramble/api"
	"bramble/scc"
)

// arcsOf: arcs between these numbers, taken by twos.
func arcsOf(ends ...int) []api.Arc {
	var arcs []api.Arc
	for i := 0; i+1 < len(ends); i += 2 {
		arcs = append(arcs, api.Arc{U: ends[i], V: ends[i+1]})
	}
	return arcs
}

// want holds what is answered against what is written out, and both against the chapter's words.
func want(t *testing.T, g plain, comps [][]int, order []int, acyclic bool) {
	t.Helper()
	if got, want := ask(t, g), (answer{comps, order, acyclic, api.OK}); !got.equal(want) {
		t.Errorf("P9.1: of %v: %v, not %v", g, got, want)
	}
	try(t, g)
}

// wantFault: each of the three calls answers this error, and nothing beside it.
func wantFault(t *testing.T, g plain, errno api.Errno) {
	t.Helper()
	if comps, got := scc.Of(g.vs, g.arcs); len(comps) != 0 || got != errno {
		t.Errorf("P9.1: Of %v: %v, %d, not %d", g, comps, got, errno)
	}
	if order, got := scc.Order(g.vs, g.arcs); len(order) != 0 || got != errno {
		t.Errorf("P9.1: Order of %v: %v, %d, not %d", g, order, got, errno)
	}
	if yes, got := scc.Acyclic(g.vs, g.arcs); yes || got != errno {
		t.Errorf("P9.1: Acyclic of %v: %v, %d, not %d", g, yes, got, errno)
	}
	try(t, g)
}

func TestExamples(t *testing.T) {
	vs := []int{7, 1, 4, 9}
	want(t, plain{vs, arcsOf(4, 9, 9, 4, 4, 1, 7, 7)}, [][]int{{1}, {4, 9}, {7}}, []int{4, 1, 7}, false)
	want(t, plain{vs, arcsOf(4, 9, 4, 1)}, [][]int{{1}, {4}, {7}, {9}}, []int{4, 1, 7, 9}, true)
}

func TestNothing(t *testing.T) {
	for _, vs := range [][]int{nil, {}, make([]int, 0, 5)} {
		for _, arcs := range [][]api.Arc{nil, {}, make([]api.Arc, 0, 5)} {
			want(t, plain{vs, arcs}, nil, nil, true)
		}
	}
}

func TestVerticesWithoutArcs(t *testing.T) {
	want(t, plain{vs: []int{8}}, [][]int{{8}}, []int{8}, true)
	want(t, plain{vs: []int{0}, arcs: []api.Arc{}}, [][]int{{0}}, []int{0}, true)
	want(t, plain{vs: []int{5, -1, 3, 0}}, [][]int{{-1}, {0}, {3}, {5}}, []int{-1, 0, 3, 5}, true)
}

func TestArcToItself(t *testing.T) {
	want(t, plain{[]int{6}, arcsOf(6, 6)}, [][]int{{6}}, []int{6}, false)
	want(t, plain{[]int{6}, arcsOf(6, 6, 6, 6)}, [][]int{{6}}, []int{6}, false)
	want(t, plain{[]int{6, 2, 4}, arcsOf(6, 2, 4, 4)}, [][]int{{2}, {4}, {6}}, []int{4, 6, 2}, false)
	want(t, plain{[]int{6, 2, 4}, arcsOf(6, 2, 2, 2)}, [][]int{{2}, {4}, {6}}, []int{4, 6, 2}, false)
	want(t, plain{[]int{6, 2, 4}, arcsOf(6, 2, 6, 6, 2, 4)}, [][]int{{2}, {4}, {6}}, []int{6, 2, 4}, false)
	want(t, plain{[]int{6, 2}, arcsOf(6, 2, 2, 6, 6, 6)}, [][]int{{2, 6}}, []int{2}, false)
}

// Any ints are vertices, also where a difference of two is none.
func TestAnyNumbers(t *testing.T) {
	least, most := math.MinInt, math.MaxInt
	want(t, plain{vs: []int{most, 0, least}}, [][]int{{least}, {0}, {most}}, []int{least, 0, most}, true)
	want(t, plain{[]int{most, least}, arcsOf(most, least)}, [][]int{{least}, {most}}, []int{most, least}, true)
	want(t, plain{[]int{most, least, -1}, arcsOf(most, least, least, most)}, [][]int{{least, most}, {-1}}, []int{least, -1}, false)
	want(t, plain{[]int{most, least, -1, -2}, arcsOf(-1, -2, -2, least, most, -1)}, [][]int{{least}, {-2}, {-1}, {most}}, []int{most, -1, -2, least}, true)
	want(t, plain{[]int{1 << 40, -1 << 40, most - 1, most, least + 1}, arcsOf(most, most-1, most-1, most, least+1, least+1)},
		[][]int{{least + 1}, {-1 << 40}, {1 << 40}, {most - 1, most}}, []int{least + 1, -1 << 40, 1 << 40, most - 1}, false)
}

func TestVerticesInAnyOrder(t *testing.T) {
	arcs := arcsOf(3, 1, 5, 3, 3, 5, 4, 2)
	for _, vs := range [][]int{{1, 2, 3, 4, 5}, {5, 4, 3, 2, 1}, {3, 5, 1, 4, 2}, {2, 1, 5, 3, 4}} {
		want(t, plain{vs, arcs}, [][]int{{1}, {2}, {3, 5}, {4}}, []int{3, 1, 4, 2}, false)
	}
}

func TestArcsSeveralTimes(t *testing.T) {
	want(t, plain{[]int{1, 2, 3}, arcsOf(3, 1, 3, 1, 2, 1, 3, 1)}, [][]int{{1}, {2}, {3}}, []int{2, 3, 1}, true)
	many := slices.Repeat(arcsOf(3, 1, 1, 2), 50)
	want(t, plain{[]int{1, 2, 3}, many}, [][]int{{1}, {2}, {3}}, []int{3, 1, 2}, true)
	want(t, plain{[]int{1, 2, 3}, append(many, arcsOf(2, 3, 2, 3)...)}, [][]int{{1, 2, 3}}, []int{1}, false)
}

// Arcs in both directions between two components make them one; several in one direction don't.
func TestBetweenComponents(t *testing.T) {
	vs, rings := []int{1, 2, 3, 4}, arcsOf(1, 3, 3, 1, 2, 4, 4, 2)
	want(t, plain{vs, rings}, [][]int{{1, 3}, {2, 4}}, []int{1, 2}, false)
	onward := append(rings, arcsOf(4, 1, 2, 3, 4, 3)...)
	want(t, plain{vs, onward}, [][]int{{1, 3}, {2, 4}}, []int{2, 1}, false)
	want(t, plain{vs, append(onward, arcsOf(1, 4)...)}, [][]int{{1, 2, 3, 4}}, []int{1}, false)
}

func TestRings(t *testing.T) {
	for _, c := range []struct {
		name  string
		vs    []int
		arcs  []api.Arc
		comps [][]int
		order []int
	}{
		{"through all", []int{3, 1, 5, 2, 4}, arcsOf(1, 4, 4, 2, 2, 5, 5, 3, 3, 1), [][]int{{1, 2, 3, 4, 5}}, []int{1}},
		{"of two", []int{3, 1}, arcsOf(3, 1, 1, 3), [][]int{{1, 3}}, []int{1}},
		{"that share a vertex", []int{1, 2, 3, 4, 5, 6}, arcsOf(3, 6, 6, 2, 2, 3, 3, 5, 5, 3), [][]int{{1}, {2, 3, 5, 6}, {4}}, []int{1, 2, 4}},
		{"that share an arc", []int{1, 2, 3, 4}, arcsOf(1, 2, 2, 3, 3, 1, 2, 4, 4, 1), [][]int{{1, 2, 3, 4}}, []int{1}},
		{"that share nothing", []int{6, 5, 4, 3, 2, 1}, arcsOf(1, 6, 6, 1, 5, 2, 2, 3, 3, 5), [][]int{{1, 6}, {2, 3, 5}, {4}}, []int{1, 2, 4}},
		{"one within another", []int{1, 2, 3, 4, 5, 6}, arcsOf(1, 2, 2, 3, 3, 4, 4, 5, 5, 6, 6, 1, 3, 5, 5, 3), [][]int{{1, 2, 3, 4, 5, 6}}, []int{1}},
		{"with a way in and a way out", []int{1, 2, 3, 4, 5}, arcsOf(5, 3, 3, 4, 4, 3, 4, 1), [][]int{{1}, {2}, {3, 4}, {5}}, []int{2, 5, 3, 1}},
		{"with an arc across", []int{1, 2, 3, 4}, arcsOf(1, 2, 2, 3, 3, 4, 4, 1, 1, 3), [][]int{{1, 2, 3, 4}}, []int{1}},
		{"almost", []int{1, 2, 3, 4}, arcsOf(1, 2, 2, 3, 3, 4, 1, 4), [][]int{{1}, {2}, {3}, {4}}, []int{1, 2, 3, 4}},
		{"with a tail that is gone along first", []int{1, 2, 3, 4}, arcsOf(1, 2, 2, 4, 1, 3, 3, 1, 3, 2), [][]int{{1, 3}, {2}, {4}}, []int{1, 2, 4}},
	} {
		t.Run(c.name, func(t *testing.T) {
			want(t, plain{c.vs, c.arcs}, c.comps, c.order, c.name == "almost")
			reversed := plain{c.vs, nil}
			for _, arc := range c.arcs {
				reversed.arcs = append(reversed.arcs, api.Arc{U: arc.V, V: arc.U})
			}
			if got := ask(t, reversed); !slices.EqualFunc(got.comps, c.comps, slices.Equal) {
				t.Errorf("P9.1: with its arcs reversed: %v, not %v", got.comps, c.comps)
			}
			try(t, reversed)
		})
	}
}

func TestTwice(t *testing.T) {
	good := arcsOf(1, 2, 2, 1)
	for _, vs := range [][]int{{1, 1}, {1, 2, 1}, {1, 2, 2}, {2, 2, 1}, {1, 2, 3, 4, 5, 6, 2}, {2, 1, 2, 1}, {1, 2, 0, 0}, {math.MinInt, 1, 2, math.MinInt}, {math.MaxInt, 2, 1, math.MaxInt}} {
		wantFault(t, plain{vs, nil}, api.ErrTwice)
		if slices.Contains(vs, 2) {
			wantFault(t, plain{vs, good}, api.ErrTwice)
		}
	}
}

func TestNoVertex(t *testing.T) {
	for _, other := range []int{0, 2, 3, 6, -5, 10, math.MinInt, math.MaxInt} {
		vs := []int{5, 1, 9}
		for _, arc := range arcsOf(5, other, other, 5, other, other) {
			wantFault(t, plain{vs, []api.Arc{arc}}, api.ErrNoVertex)
			wantFault(t, plain{vs, append(arcsOf(5, 1, 1, 5, 9, 9), arc)}, api.ErrNoVertex)
			wantFault(t, plain{vs, append([]api.Arc{arc}, arcsOf(5, 1, 1, 5)...)}, api.ErrNoVertex)
			wantFault(t, plain{nil, []api.Arc{arc}}, api.ErrNoVertex)
		}
	}
	wantFault(t, plain{nil, arcsOf(0, 0)}, api.ErrNoVertex)
	wantFault(t, plain{[]int{}, arcsOf(1, 2)}, api.ErrNoVertex)
	// Each end is a vertex in one arc or another, but not both of one.
	wantFault(t, plain{[]int{1, 2}, arcsOf(1, 3, 4, 2)}, api.ErrNoVertex)
}

// Both faults at once, wherever each stands: a number that stands twice is looked for first.
func TestBothFaults(t *testing.T) {
	for _, vs := range [][]int{{1, 1}, {1, 1, 2}, {2, 1, 3, 2}} {
		for _, arcs := range [][]api.Arc{arcsOf(9, 9), arcsOf(1, 1, 1, 9), arcsOf(9, 1, 1, 1), arcsOf(0, -1)} {
			wantFault(t, plain{vs, arcs}, api.ErrTwice)
		}
	}
}

func TestNumbersOfErrors(t *testing.T) {
	if api.ErrTwice != 2 || api.ErrNoVertex != 5 {
		t.Errorf("ErrTwice %d, ErrNoVertex %d", api.ErrTwice, api.ErrNoVertex)
	}
}
