package live_test

import (
	"fmt"
	"maps"
	"math"
	"slices"
	"testing"

	"bramble/api"
	"bramble/live"
	"bramble/tree"
)

const (
	minus0   = 0x80000000
	least    = 0x00000001
	one      = 0x3f800000
	two      = 0x40000000
	three    = 0x40400000
	many     = 0x4b800000 // 2^24: the sum of it and 1 lies between two
	greatest = 0x7f7fffff
	plusInf  = 0x7f800000
)

// bitsOf: those of a number.
func bitsOf(w float32) uint32 { return math.Float32bits(w) }

// edge: with its weight as a number.
func edge(e, u, v int, w float32) api.Edge { return api.Edge{E: e, U: u, V: v, Bits: bitsOf(w)} }

// added: the bits of a cost and a weight together, worked out with more bits than a float32 has, so that one rounding is made.
func added(cost, w uint32) uint32 {
	if w == minus0 {
		w = 0
	}
	return bitsOf(float32(float64(math.Float32frombits(cost)) + float64(math.Float32frombits(w))))
}

// plain: a graph, from which all answers are worked out anew by the chapter's words.
type plain struct {
	s  int
	vs map[int]int
	es map[int]api.Edge
}

func (g plain) has(v int) bool {
	_, in := g.vs[v]
	return in
}

// leaving: of each vertex, the edges that begin there.
func (g plain) leaving() map[int][]api.Edge {
	out := map[int][]api.Edge{}
	for _, x := range g.es {
		out[x.U] = append(out[x.U], x)
	}
	return out
}

// byAllWalks: the least cost of all walks without loops, of each vertex to which one leads.
func byAllWalks(g plain) map[int]uint32 {
	costs, out := map[int]uint32{}, g.leaving()
	var goOn func(at int, cost uint32, been []int)
	goOn = func(at int, cost uint32, been []int) {
		if slices.Contains(been, at) {
			return
		}
		if least, ok := costs[at]; !ok || cost < least {
			costs[at] = cost
		}
		been = append(been, at)
		for _, x := range out[at] {
			goOn(x.V, added(cost, x.Bits), been)
		}
	}
	goOn(g.s, 0, nil)
	return costs
}

// bySteps: the least cost of all walks, those with loops too: of one edge more at each turn, till no turn makes one cheaper.
func bySteps(g plain) map[int]uint32 {
	costs := map[int]uint32{g.s: 0}
	for again := true; again; {
		again = false
		for _, x := range g.es {
			cost, ok := costs[x.U]
			if !ok {
				continue
			}
			sum := added(cost, x.Bits)
			if least, ok := costs[x.V]; !ok || sum < least {
				costs[x.V], again = sum, true
			}
		}
	}
	return costs
}

// pair: the thing that is tested, and the plain graph that it has to be like.
type pair struct {
	t *testing.T
	x *live.Live
	g plain
	// How the distances of a graph are worked out anew.
	model func(plain) map[int]uint32
	// What that tells of g; worked out behind each edit that changes it.
	costs map[int]uint32
	// What Touched told last.
	touched int
	// Numbers of which some are no vertices, asked of behind each edit.
	others []int
	// The last calls, for what is told of a fault.
	done []string
}

func newPair(t *testing.T, s int, others ...int) *pair {
	t.Helper()
	p := &pair{t: t, x: live.New(s), g: plain{s: s, vs: map[int]int{s: 1}, es: map[int]api.Edge{}}, model: byAllWalks, others: others}
	p.tell("New(%d)", s)
	p.costs = p.model(p.g)
	p.compare()
	return p
}

// wide: the same, for graphs that have too many walks to go through.
func (p *pair) wide() *pair {
	p.model = bySteps
	return p
}

func (p *pair) fail(form string, args ...any) {
	p.t.Helper()
	p.t.Fatalf("%s; the graph is %v, behind %v", fmt.Sprintf(form, args...), p.g, p.done)
}

func (p *pair) tell(form string, args ...any) {
	if len(p.done) == 100 {
		p.done = append(p.done[:0], p.done[50:]...)
	}
	p.done = append(p.done, fmt.Sprintf(form, args...))
}

func (p *pair) addVertex(v int) bool {
	p.t.Helper()
	p.tell("AddVertex(%d)", v)
	want := !p.g.has(v)
	if got := p.x.AddVertex(v); got != want {
		p.fail("P14.1: %v, not %v", got, want)
	}
	p.g.vs[v] = 1
	p.compare()
	return want
}

func (p *pair) dropVertex(v int) bool {
	p.t.Helper()
	p.tell("DropVertex(%d)", v)
	want := p.g.has(v) && v != p.g.s
	for _, x := range p.g.es {
		want = want && x.U != v && x.V != v
	}
	if got := p.x.DropVertex(v); got != want {
		p.fail("P14.1: %v, not %v", got, want)
	}
	if want {
		delete(p.g.vs, v)
	}
	p.compare()
	return want
}

// admitted: are these the bits of a weight?
func admitted(bits uint32) bool {
	w := math.Float32frombits(bits)
	return w >= 0 && w <= math.MaxFloat32
}

func (p *pair) insert(x api.Edge) api.Errno {
	p.t.Helper()
	p.tell("Insert(%d, %d, %d, %08x)", x.E, x.U, x.V, x.Bits)
	_, there := p.g.es[x.E]
	want := api.OK
	switch {
	case x.E < 1:
		want = api.ErrRange
	case there:
		want = api.ErrTwice
	case !p.g.has(x.U) || !p.g.has(x.V):
		want = api.ErrNoVertex
	case !admitted(x.Bits):
		want = api.ErrBadWeight
	}
	p.wantErrno(p.x.Insert(x), want)
	if want != api.OK {
		p.compare()
		return want
	}
	p.g.es[x.E] = x
	was, ahead := p.costs[x.V], p.costs
	p.costs = p.model(p.g)
	_, begins := ahead[x.U]
	_, led := ahead[x.V]
	p.compareTouched(ahead, begins && (!led || p.costs[x.V] < was))
	p.compare()
	return want
}

func (p *pair) delete(e int) api.Errno {
	p.t.Helper()
	p.tell("Delete(%d)", e)
	x, there := p.g.es[e]
	if !there {
		p.wantErrno(p.x.Delete(e), api.ErrNoEdge)
		p.compare()
		return api.ErrNoEdge
	}
	last := p.x.Last(x.V) == e
	p.wantErrno(p.x.Delete(e), api.OK)
	delete(p.g.es, e)
	ahead := p.costs
	p.costs = p.model(p.g)
	p.compareTouched(ahead, last)
	p.compare()
	return api.OK
}

func (p *pair) reweigh(e int, bits uint32) api.Errno {
	p.t.Helper()
	p.tell("Reweigh(%d, %08x)", e, bits)
	x, there := p.g.es[e]
	want := api.OK
	switch {
	case !there:
		want = api.ErrNoEdge
	case !admitted(bits):
		want = api.ErrBadWeight
	}
	last := p.x.Last(x.V) == e
	p.wantErrno(p.x.Reweigh(e, bits), want)
	if want != api.OK {
		p.compare()
		return want
	}
	above := math.Float32frombits(bits) > math.Float32frombits(x.Bits)
	x.Bits = bits
	p.g.es[e] = x
	was, ahead := p.costs[x.V], p.costs
	p.costs = p.model(p.g)
	_, begins := ahead[x.U]
	if above {
		p.compareTouched(ahead, last)
	} else {
		p.compareTouched(ahead, begins && p.costs[x.V] < was)
	}
	p.compare()
	return want
}

// compareTouched holds Touched against the bounds of an edit that was done: none, unless the edge allows for some; at most the
// vertices to which a walk led ahead of it or leads now; and at least those whose distance is another one.
func (p *pair) compareTouched(ahead map[int]uint32, some bool) {
	p.t.Helper()
	changed, known := 0, 0
	for v := range p.g.vs {
		was, led := ahead[v]
		is, leads := p.costs[v]
		if led || leads {
			known++
		}
		if led != leads || was != is {
			changed++
		}
	}
	p.touched = p.x.Touched()
	switch {
	case !some && p.touched != 0:
		p.fail("P14.3: Touched: %d, and there was nothing to repair", p.touched)
	case p.touched > known:
		p.fail("P14.3: Touched: %d, and walks lead or led to %d", p.touched, known)
	case p.touched < changed:
		p.fail("P14.1: Touched: %d, and %d distances have changed", p.touched, changed)
	}
}

// compare holds all that can be asked against what is worked out anew.
func (p *pair) compare() {
	p.t.Helper()
	p.compareDists()
	for v := range p.g.vs {
		if _, ok := p.costs[v]; ok {
			p.comparePath(v)
		} else {
			p.wantNothing(v, api.ErrNoPath)
		}
	}
	for _, v := range p.others {
		if !p.g.has(v) {
			p.wantNothing(v, api.ErrNoVertex)
		}
	}
	if got := p.x.Touched(); got != p.touched {
		p.fail("P14.1: Touched: %d, and nothing was done behind the edit that told %d", got, p.touched)
	}
}

// compareDists: the answers that tell of distances, as they are worked out anew and as a tree tells them that is built of the same graph.
func (p *pair) compareDists() {
	p.t.Helper()
	if got := p.x.Source(); got != p.g.s {
		p.fail("P14.1: Source: %d", got)
	}
	var reached []int
	var dists []api.Dist
	for _, v := range slices.Sorted(maps.Keys(p.g.vs)) {
		cost, ok := p.costs[v]
		if ok {
			reached = append(reached, v)
			if got, errno := p.x.Dist(v); got != cost || errno != api.OK {
				p.fail("P14.1: Dist(%d): %08x, %d, not %08x", v, got, errno, cost)
			}
		}
		dists = append(dists, api.Dist{V: v, Far: !ok, Bits: cost, Edge: p.x.Last(v)})
	}
	if got := p.x.Reached(); !slices.Equal(got, reached) {
		p.fail("P14.1: Reached: %v, not %v", got, reached)
	}
	if got := p.x.Dists(); !slices.Equal(got, dists) {
		p.fail("P14.1: Dists: %v, not %v", got, dists)
	}
	p.compareBuilt(dists)
}

// compareBuilt: a tree that is built of the same graph tells the same distances.
func (p *pair) compareBuilt(dists []api.Dist) {
	p.t.Helper()
	built, errno := tree.Build(slices.Collect(maps.Keys(p.g.vs)), slices.Collect(maps.Values(p.g.es)), p.g.s)
	if errno != api.OK {
		p.fail("the tree of %v: %d", p.g, errno)
	}
	alike := func(a, b api.Dist) bool { return a.V == b.V && a.Far == b.Far && a.Bits == b.Bits }
	if want := built.Dists(); !slices.EqualFunc(dists, want, alike) {
		p.fail("P14.1: Dists: %v, and the tree that is built has %v", dists, want)
	}
}

// wantNothing: of v each call tells this error, and nothing beside it.
func (p *pair) wantNothing(v int, want api.Errno) {
	p.t.Helper()
	if bits, errno := p.x.Dist(v); bits != 0 || errno != want {
		p.fail("P14.1: Dist(%d): %08x, %d, not %d", v, bits, errno, want)
	}
	if path, errno := p.x.Path(v); len(path) != 0 || errno != want {
		p.fail("P14.2: Path(%d): %v, %d, not %d", v, path, errno, want)
	}
	if e := p.x.Last(v); e != 0 {
		p.fail("P14.2: Last(%d): %d", v, e)
	}
}

// comparePath looks whether the path to v is a walk without loops of edges that are there, costs the distance, ends as Last says,
// and goes on from the path to where its last edge begins.
func (p *pair) comparePath(v int) {
	p.t.Helper()
	path, errno := p.x.Path(v)
	if errno != api.OK {
		p.fail("P14.2: Path(%d): %d", v, errno)
	}
	stops, cost := p.along(path)
	if stops[len(stops)-1] != v || cost != p.costs[v] {
		p.fail("P14.2: Path(%d): %v leads to %d and costs %08x, not %08x", v, path, stops[len(stops)-1], cost, p.costs[v])
	}
	slices.Sort(stops)
	if len(slices.Compact(stops)) != len(path)+1 {
		p.fail("P14.2: Path(%d): %v comes to a vertex twice", v, path)
	}
	if len(path) == 0 {
		if p.x.Last(v) != 0 || v != p.g.s {
			p.fail("P14.2: Path(%d) is empty, its last edge %d", v, p.x.Last(v))
		}
		return
	}
	last, ahead := path[len(path)-1], path[:len(path)-1]
	if p.x.Last(v) != last {
		p.fail("P14.2: Last(%d): %d, and the path is %v", v, p.x.Last(v), path)
	}
	u := p.g.es[last].U
	if got, errno := p.x.Path(u); !slices.Equal(got, ahead) || errno != api.OK {
		p.fail("P14.2: Path(%d) is %v, and Path(%d) is %v, %d", v, path, u, got, errno)
	}
}

// along: the vertices by which a walk from the source comes, and the bits of its cost.
func (p *pair) along(path []int) ([]int, uint32) {
	p.t.Helper()
	stops, cost := []int{p.g.s}, uint32(0)
	for _, e := range path {
		x, there := p.g.es[e]
		if !there || x.U != stops[len(stops)-1] {
			p.fail("P14.2: %v is no walk", path)
		}
		stops, cost = append(stops, x.V), added(cost, x.Bits)
	}
	return stops, cost
}

// addVertices adds those of which all are new.
func (p *pair) addVertices(vs ...int) {
	p.t.Helper()
	for _, v := range vs {
		if !p.addVertex(v) {
			p.fail("%d was a vertex", v)
		}
	}
}

// insertAll puts in edges that may come.
func (p *pair) insertAll(es ...api.Edge) {
	p.t.Helper()
	for _, x := range es {
		p.wantErrno(p.insert(x), api.OK)
	}
}

// wantErrno holds an error against what is written out.
func (p *pair) wantErrno(got, want api.Errno) {
	p.t.Helper()
	if got != want {
		p.fail("P14.1: %d, not %d", got, want)
	}
}

// want holds an answer against what is written out.
func (p *pair) want(got, want bool) {
	p.t.Helper()
	if got != want {
		p.fail("P14.1: %v, not %v", got, want)
	}
}

// wantDist holds a distance against what is written out.
func (p *pair) wantDist(v int, want uint32) {
	p.t.Helper()
	if bits, errno := p.x.Dist(v); bits != want || errno != api.OK {
		p.fail("P14.1: Dist(%d): %08x, %d, not %08x", v, bits, errno, want)
	}
}

// wantPath holds a path against those that are written out, of which it has to be one.
func (p *pair) wantPath(v int, paths ...[]int) {
	p.t.Helper()
	got, errno := p.x.Path(v)
	if errno != api.OK || !slices.ContainsFunc(paths, func(path []int) bool { return slices.Equal(got, path) }) {
		p.fail("P14.2: Path(%d): %v, %d, not one of %v", v, got, errno, paths)
	}
}

// wantReached holds Reached against what is written out.
func (p *pair) wantReached(want ...int) {
	p.t.Helper()
	if got := p.x.Reached(); !slices.Equal(got, want) {
		p.fail("P14.1: Reached: %v, not %v", got, want)
	}
}

// wantDists holds Dists against what is written out.
func (p *pair) wantDists(want ...api.Dist) {
	p.t.Helper()
	if got := p.x.Dists(); !slices.Equal(got, want) {
		p.fail("P14.1: Dists: %v, not %v", got, want)
	}
}

// wantTouched holds Touched against these bounds.
func (p *pair) wantTouched(least, most int) {
	p.t.Helper()
	if got := p.x.Touched(); got < least || got > most {
		p.fail("P14.3: Touched: %d, not from %d to %d", got, least, most)
	}
}
