package cond_test

import (
	"cmp"
	"fmt"
	"maps"
	"slices"
	"testing"

	"bramble/api"
	"bramble/cond"
)

// plain: a graph, from which all answers are worked out anew by the chapter's words.
type plain struct {
	vs   []int
	arcs map[int]api.Arc
}

// picture: what the words say of a graph.
type picture struct {
	head    map[int]int
	members map[int][]int
	heads   []int
	arcs    []api.Arc
}

func (g plain) picture() picture {
	reach := g.reaching()
	p := picture{head: map[int]int{}, members: map[int][]int{}}
	vs := slices.Sorted(slices.Values(g.vs))
	for _, u := range vs {
		for _, v := range vs {
			if reach[api.Arc{U: u, V: v}] && reach[api.Arc{U: v, V: u}] {
				p.members[u] = append(p.members[u], v)
			}
		}
		p.head[u] = p.members[u][0]
		if p.head[u] == u {
			p.heads = append(p.heads, u)
		}
	}
	for _, from := range p.heads {
		for _, to := range p.heads {
			leads := func(arc api.Arc) bool { return p.head[arc.U] == from && p.head[arc.V] == to }
			if from != to && slices.ContainsFunc(slices.Collect(maps.Values(g.arcs)), leads) {
				p.arcs = append(p.arcs, api.Arc{U: from, V: to})
			}
		}
	}
	return p
}

// reaching: of each pair of vertices, does the one reach the other?
func (g plain) reaching() map[api.Arc]bool {
	reach := map[api.Arc]bool{}
	for _, v := range g.vs {
		reach[api.Arc{U: v, V: v}] = true
	}
	for _, arc := range g.arcs {
		reach[arc] = true
	}
	for _, mid := range g.vs {
		for _, u := range g.vs {
			if !reach[api.Arc{U: u, V: mid}] {
				continue
			}
			for _, v := range g.vs {
				if reach[api.Arc{U: mid, V: v}] {
					reach[api.Arc{U: u, V: v}] = true
				}
			}
		}
	}
	return reach
}

// pair: the thing that is tested, and the plain graph that it has to be like.
type pair struct {
	t *testing.T
	c *cond.Cond
	g plain
	// What the words say of g; worked out behind each edit that changes it.
	now picture
	// What Looked told last.
	looked int
	// Numbers of vertices of which some are none, asked of behind each edit.
	others []int
	// Each edit so far, for what is told of a fault.
	done []string
}

func newPair(t *testing.T, others ...int) *pair {
	p := &pair{t: t, c: cond.New(), g: plain{arcs: map[int]api.Arc{}}, others: others}
	p.now = p.g.picture()
	return p
}

func (p *pair) fail(form string, args ...any) {
	p.t.Helper()
	p.t.Fatalf("%s; behind %v", fmt.Sprintf(form, args...), p.done)
}

func (p *pair) addVertex(v int) bool {
	p.t.Helper()
	p.done = append(p.done, fmt.Sprintf("AddVertex(%d)", v))
	want := !slices.Contains(p.g.vs, v)
	if got := p.c.AddVertex(v); got != want {
		p.fail("P10.1: %v, not %v", got, want)
	}
	if want {
		p.g.vs = append(p.g.vs, v)
	}
	p.compare(p.looked, p.looked)
	return want
}

func (p *pair) dropVertex(v int) bool {
	p.t.Helper()
	p.done = append(p.done, fmt.Sprintf("DropVertex(%d)", v))
	want := slices.Contains(p.g.vs, v)
	for _, arc := range p.g.arcs {
		want = want && arc.U != v && arc.V != v
	}
	if got := p.c.DropVertex(v); got != want {
		p.fail("P10.1: %v, not %v", got, want)
	}
	if want {
		p.g.vs = slices.DeleteFunc(p.g.vs, func(w int) bool { return w == v })
	}
	p.compare(p.looked, p.looked)
	return want
}

func (p *pair) addArc(e, u, v int) api.Errno {
	p.t.Helper()
	p.done = append(p.done, fmt.Sprintf("AddArc(%d, %d, %d)", e, u, v))
	want := api.OK
	if _, there := p.g.arcs[e]; there {
		want = api.ErrTwice
	} else if !slices.Contains(p.g.vs, u) || !slices.Contains(p.g.vs, v) {
		want = api.ErrNoVertex
	}
	if got := p.c.AddArc(e, u, v); got != want {
		p.fail("P10.1: %d, not %d", got, want)
	}
	if want != api.OK {
		p.compare(p.looked, p.looked)
		return want
	}
	most := 2 * len(p.g.vs)
	if p.now.head[u] == p.now.head[v] {
		most = 0
	}
	p.g.arcs[e] = api.Arc{U: u, V: v}
	p.compare(0, most)
	return want
}

func (p *pair) dropArc(e int) api.Errno {
	p.t.Helper()
	p.done = append(p.done, fmt.Sprintf("DropArc(%d)", e))
	want := api.OK
	arc, there := p.g.arcs[e]
	if !there {
		want = api.ErrNoEdge
	}
	if got := p.c.DropArc(e); got != want {
		p.fail("P10.1: %d, not %d", got, want)
	}
	if want != api.OK {
		p.compare(p.looked, p.looked)
		return want
	}
	most := 2 * len(p.now.members[arc.U])
	if arc.U == arc.V || p.now.head[arc.U] != p.now.head[arc.V] {
		most = 0
	}
	delete(p.g.arcs, e)
	p.compare(0, most)
	return want
}

// compare holds all that can be asked against what is worked out anew, and Looked
// against its bounds.
func (p *pair) compare(least, most int) {
	p.t.Helper()
	if got := p.c.Looked(); got < least || got > most {
		p.fail("P10.2: Looked: %d, not from %d to %d", got, least, most)
	}
	p.looked = p.c.Looked()
	p.now = p.g.picture()
	p.compareLists()
	asked := slices.Concat(p.g.vs, p.others)
	for _, u := range asked {
		want, in := p.now.head[u]
		if got, ok := p.c.Head(u); got != want || ok != in {
			p.fail("P10.1: Head(%d): %d, %v, not %d, %v", u, got, ok, want, in)
		}
		if got := p.c.Members(u); !slices.Equal(got, p.now.members[u]) {
			p.fail("P10.1: Members(%d): %v, not %v", u, got, p.now.members[u])
		}
		for _, v := range asked {
			other, both := p.now.head[v]
			if got := p.c.Same(u, v); got != (in && both && want == other) {
				p.fail("P10.1: Same(%d, %d): %v", u, v, got)
			}
		}
	}
	if got := p.c.Looked(); got != p.looked {
		p.fail("P10.2: Looked: %d behind calls that edit nothing, not %d", got, p.looked)
	}
}

// compareLists: Heads and Arcs, as they are worked out anew and by their form.
func (p *pair) compareLists() {
	p.t.Helper()
	heads, arcs := p.c.Heads(), p.c.Arcs()
	if !slices.Equal(heads, p.now.heads) {
		p.fail("P10.1: Heads: %v, not %v", heads, p.now.heads)
	}
	if !slices.Equal(arcs, p.now.arcs) {
		p.fail("P10.1: Arcs: %v, not %v", arcs, p.now.arcs)
	}
	for i, arc := range arcs {
		if arc.U == arc.V {
			p.fail("P10.1: Arcs: %v has one of a component to itself", arcs)
		}
		if i > 0 && !before(arcs[i-1], arc) {
			p.fail("P10.1: Arcs: %v doesn't rise", arcs)
		}
	}
}

func before(a, b api.Arc) bool {
	return cmp.Or(cmp.Compare(a.U, b.U), cmp.Compare(a.V, b.V)) < 0
}

// addVertices adds those of which all are new.
func (p *pair) addVertices(vs ...int) {
	p.t.Helper()
	for _, v := range vs {
		if !p.addVertex(v) {
			p.fail("%d was a vertex", v)
		}
	}
}

// addArcs adds arcs that may come: of each three numbers, the arc's, where it begins, where it leads.
func (p *pair) addArcs(threes ...int) {
	p.t.Helper()
	for i := 0; i+2 < len(threes); i += 3 {
		if errno := p.addArc(threes[i], threes[i+1], threes[i+2]); errno != api.OK {
			p.fail("%d", errno)
		}
	}
}

// dropArcs drops arcs that are there.
func (p *pair) dropArcs(es ...int) {
	p.t.Helper()
	for _, e := range es {
		if errno := p.dropArc(e); errno != api.OK {
			p.fail("%d", errno)
		}
	}
}

// wantComps holds the components against what is written out.
func (p *pair) wantComps(comps ...[]int) {
	p.t.Helper()
	var got [][]int
	for _, head := range p.c.Heads() {
		got = append(got, p.c.Members(head))
	}
	if !slices.EqualFunc(got, comps, slices.Equal) {
		p.fail("P10.1: the components are %v, not %v", got, comps)
	}
}

// wantArcs holds the arcs between components, given by the numbers of their ends, against what is written out.
func (p *pair) wantArcs(ends ...int) {
	p.t.Helper()
	var want []api.Arc
	for i := 0; i+1 < len(ends); i += 2 {
		want = append(want, api.Arc{U: ends[i], V: ends[i+1]})
	}
	if got := p.c.Arcs(); !slices.Equal(got, want) {
		p.fail("P10.1: Arcs: %v, not %v", got, want)
	}
}

// wantErrno holds an error against what is written out.
func (p *pair) wantErrno(got, want api.Errno) {
	p.t.Helper()
	if got != want {
		p.fail("P10.1: %d, not %d", got, want)
	}
}

// want holds an answer against what is written out.
func (p *pair) want(got, want bool) {
	p.t.Helper()
	if got != want {
		p.fail("P10.1: %v, not %v", got, want)
	}
}
