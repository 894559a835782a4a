package cover_test

import (
	"fmt"
	"math"
	"slices"
	"testing"

	"bramble/api"
	"bramble/cover"
)

// plain: a graph, of which all answers are worked out anew by the chapter's words.
type plain struct {
	n    int
	arcs []api.Arc
}

// arcsOf: of each two numbers, where an arc begins and where it leads.
func arcsOf(ends ...int) []api.Arc {
	var arcs []api.Arc
	for i := 0; i+1 < len(ends); i += 2 {
		arcs = append(arcs, api.Arc{U: ends[i], V: ends[i+1]})
	}
	return arcs
}

func (g plain) has(v int) bool { return v >= 0 && v < g.n }

// fault: what Build answers of it.
func (g plain) fault() api.Errno {
	if g.n < 0 || g.n > 256 {
		return api.ErrRange
	}
	for _, arc := range g.arcs {
		if !g.has(arc.U) || !g.has(arc.V) {
			return api.ErrRange
		}
	}
	reach := g.reaching()
	for _, arc := range g.arcs {
		if reach[arc.V][arc.U] {
			return api.ErrCycle
		}
	}
	return api.OK
}

// reaching: of each two nodes, does a plain search along the arcs come from the first to the second?
func (g plain) reaching() [][]bool {
	onward := make([][]int, g.n)
	for _, arc := range g.arcs {
		onward[arc.U] = append(onward[arc.U], arc.V)
	}
	reach := make([][]bool, g.n)
	for u := range g.n {
		found := make([]bool, g.n)
		found[u] = true
		for left := []int{u}; len(left) > 0; {
			v := left[0]
			left = left[1:]
			for _, w := range onward[v] {
				if !found[w] {
					found[w] = true
					left = append(left, w)
				}
			}
		}
		reach[u] = found
	}
	return reach
}

// forest: parents, posts and lows, by node.
type forest struct {
	parents, posts, lows []int
}

func (g plain) forest() forest {
	var f forest
	for v := range g.n {
		parent := -1
		for _, arc := range g.arcs {
			if arc.V == v && (parent < 0 || arc.U < parent) {
				parent = arc.U
			}
		}
		f.parents = append(f.parents, parent)
	}
	told := f.told(-1)
	for v := range g.n {
		f.posts = append(f.posts, 1+slices.Index(told, v))
	}
	f.lows = slices.Clone(f.posts)
	for v := range g.n {
		for up := f.parents[v]; up >= 0; up = f.parents[up] {
			f.lows[up] = min(f.lows[up], f.posts[v])
		}
	}
	return f
}

// told: all nodes below the one whose number is given (below none of them: -1), in the order in which they get their posts.
func (f forest) told(above int) []int {
	var all []int
	for v, parent := range f.parents {
		if parent == above {
			all = append(append(all, f.told(v)...), v)
		}
	}
	return all
}

// runs: the longest ones of numbers from 1 to n.
func runs(in []bool) []api.Span {
	var all []api.Span
	for x := 1; x < len(in); x++ {
		switch {
		case in[x] && in[x-1]:
			all[len(all)-1].Hi = x
		case in[x]:
			all = append(all, api.Span{Lo: x, Hi: x})
		}
	}
	return all
}

// pair: the thing that is tested, and the plain graph that it has to be like.
type pair struct {
	t *testing.T
	c *cover.Cover
	g plain
	// As the graph had it that Build was given.
	forest forest
	// What is worked out behind each Grow.
	reach  [][]bool
	labels [][]api.Span
	// Each call so far, for what is told of a fault.
	done []string
}

// build: Build answers as the words say; nil beside an error.
func build(t *testing.T, n int, arcs []api.Arc) *pair {
	t.Helper()
	g := plain{n, slices.Clone(arcs)}
	c, errno := cover.Build(n, arcs)
	if want := g.fault(); errno != want {
		t.Fatalf("P11.1: Build(%d, %v): %d, not %d", n, arcs, errno, want)
	}
	if (c == nil) != (errno != api.OK) {
		t.Fatalf("P11.1: Build(%d, %v): %v beside %d", n, arcs, c, errno)
	}
	if errno != api.OK {
		return nil
	}
	p := &pair{t: t, c: c, g: g, forest: g.forest(), done: []string{fmt.Sprintf("Build(%d, %v)", n, arcs)}}
	p.workOut()
	p.compare()
	return p
}

// must: likewise, of a graph that Build takes.
func must(t *testing.T, n int, ends ...int) *pair {
	t.Helper()
	p := build(t, n, arcsOf(ends...))
	if p == nil {
		t.Fatalf("P11.1: Build(%d, %v) is refused", n, arcsOf(ends...))
	}
	return p
}

func (p *pair) fail(form string, args ...any) {
	p.t.Helper()
	p.t.Fatalf("%s; behind %v", fmt.Sprintf(form, args...), p.done)
}

// grow: one arc more, or an error, by which nothing is changed.
func (p *pair) grow(u, v int) api.Errno {
	p.t.Helper()
	p.done = append(p.done, fmt.Sprintf("Grow(%d, %d)", u, v))
	want := api.OK
	if !p.g.has(u) || !p.g.has(v) {
		want = api.ErrRange
	} else if p.reach[v][u] {
		want = api.ErrCycle
	}
	if got := p.c.Grow(u, v); got != want {
		p.fail("P11.1: %d, not %d", got, want)
	}
	if want == api.OK {
		p.g.arcs = append(p.g.arcs, api.Arc{U: u, V: v})
		p.workOut()
	}
	p.compare()
	return want
}

// workOut works out who reaches whom, and the labels.
func (p *pair) workOut() {
	p.reach, p.labels = p.g.reaching(), nil
	for u := range p.g.n {
		in := make([]bool, p.g.n+1)
		for v, found := range p.reach[u] {
			in[p.forest.posts[v]] = found
		}
		p.labels = append(p.labels, runs(in))
	}
}

// strange: numbers that are no nodes.
func (p *pair) strange() []int {
	return []int{-1, p.g.n, p.g.n + 1, 256, 257, math.MinInt, math.MinInt + 1, math.MaxInt, math.MaxInt - 1, -1 << 32, 1 << 32, -257}
}

// compare holds all that can be asked against what the words say.
func (p *pair) compare() {
	p.t.Helper()
	if got := p.c.Len(); got != p.g.n {
		p.fail("P11.1: Len: %d", got)
	}
	size := 0
	for v := range p.g.n {
		p.compareNode(v)
		p.compareLabel(v)
		size += len(p.labels[v])
	}
	if got := p.c.Size(); got != size {
		p.fail("P11.1: Size: %d, not %d", got, size)
	}
	for _, v := range p.strange() {
		if !p.g.has(v) {
			p.compareStrange(v)
		}
	}
}

func (p *pair) compareNode(v int) {
	p.t.Helper()
	if got, want := p.c.Parent(v), p.forest.parents[v]; got != want {
		p.fail("P11.1: Parent(%d): %d, not %d", v, got, want)
	}
	post := p.forest.posts[v]
	if got := p.c.Post(v); got != post {
		p.fail("P11.1: Post(%d): %d, not %d", v, got, post)
	}
	if got, want := p.c.Low(v), p.forest.lows[v]; got != want {
		p.fail("P11.1: Low(%d): %d, not %d", v, got, want)
	}
	if got := p.c.Node(post); got != v {
		p.fail("P11.1: Node(%d): %d, not %d", post, got, v)
	}
}

// compareLabel: the label of u, and whom u reaches, by the plain search and by what is told of labels and posts.
func (p *pair) compareLabel(u int) {
	p.t.Helper()
	label := p.c.Label(u)
	if !slices.Equal(label, p.labels[u]) {
		p.fail("P11.1: Label(%d): %v, not %v", u, label, p.labels[u])
	}
	for i, run := range label {
		if run.Lo > run.Hi || i > 0 && label[i-1].Hi+1 >= run.Lo {
			p.fail("P11.1: Label(%d): %v are no longest runs, rising", u, label)
		}
	}
	holds := func(lo, hi int) bool {
		return slices.ContainsFunc(label, func(run api.Span) bool { return run.Lo <= lo && hi <= run.Hi })
	}
	if !holds(p.c.Low(u), p.c.Post(u)) {
		p.fail("P11.2: Label(%d): no run of %v holds all from %d to %d", u, label, p.c.Low(u), p.c.Post(u))
	}
	for v := range p.g.n {
		got := p.c.Reaches(u, v)
		if got != p.reach[u][v] {
			p.fail("P11.2: Reaches(%d, %d): %v", u, v, got)
		}
		if post := p.c.Post(v); got != holds(post, post) {
			p.fail("P11.2: Reaches(%d, %d): %v, and Label(%d) is %v, Post(%d) %d", u, v, got, u, label, v, post)
		}
	}
}

// compareStrange: what is answered of a number that is no node.
func (p *pair) compareStrange(v int) {
	p.t.Helper()
	if got := [3]int{p.c.Parent(v), p.c.Post(v), p.c.Low(v)}; got != [3]int{-1, 0, 0} {
		p.fail("P11.1: Parent, Post and Low of %d: %v", v, got)
	}
	if got := p.c.Label(v); len(got) > 0 {
		p.fail("P11.1: Label(%d): %v", v, got)
	}
	// The post n is there, unless n is 0, and so is 0 + 1.
	if v < 1 || v > p.g.n {
		if got := p.c.Node(v); got != -1 {
			p.fail("P11.1: Node(%d): %d", v, got)
		}
	}
	if p.c.Node(0) != -1 || p.c.Node(p.g.n+1) != -1 {
		p.fail("P11.1: Node(0) and Node(%d): %d, %d", p.g.n+1, p.c.Node(0), p.c.Node(p.g.n+1))
	}
	if p.c.Reaches(v, v) || p.c.Reaches(v, 0) || p.c.Reaches(0, v) || p.c.Reaches(p.g.n-1, v) || p.c.Reaches(v, p.g.n-1) {
		p.fail("P11.1: Reaches: %d is no node", v)
	}
}

// wantNode holds what is told of a node against what is written out.
func (p *pair) wantNode(v, parent, post, low int) {
	p.t.Helper()
	if got, want := [3]int{p.c.Parent(v), p.c.Post(v), p.c.Low(v)}, [3]int{parent, post, low}; got != want {
		p.fail("P11.1: Parent, Post and Low of %d: %v, not %v", v, got, want)
	}
	if got := p.c.Node(post); got != v {
		p.fail("P11.1: Node(%d): %d, not %d", post, got, v)
	}
}

// wantLabel holds the runs of a label, given by their ends, against what is written out.
func (p *pair) wantLabel(v int, ends ...int) {
	p.t.Helper()
	var want []api.Span
	for i := 0; i+1 < len(ends); i += 2 {
		want = append(want, api.Span{Lo: ends[i], Hi: ends[i+1]})
	}
	if got := p.c.Label(v); !slices.Equal(got, want) {
		p.fail("P11.1: Label(%d): %v, not %v", v, got, want)
	}
}

// wantGrow holds what Grow answers against what is written out.
func (p *pair) wantGrow(u, v int, want api.Errno) {
	p.t.Helper()
	if got := p.grow(u, v); got != want {
		p.fail("P11.1: %d, not %d", got, want)
	}
}

// wantReaches holds an answer against what is written out.
func (p *pair) wantReaches(u, v int, want bool) {
	p.t.Helper()
	if got := p.c.Reaches(u, v); got != want {
		p.fail("P11.2: Reaches(%d, %d): %v", u, v, got)
	}
}

// wantSize holds Size against what is written out.
func (p *pair) wantSize(want int) {
	p.t.Helper()
	if got := p.c.Size(); got != want {
		p.fail("P11.1: Size: %d, not %d", got, want)
	}
}
