package reach_test

import (
	"fmt"
	"slices"
	"testing"

	"bramble/api"
	"bramble/reach"
)

// listed: the chapter's functions, with just these signatures.
type listed interface {
	AddVertex(v int) bool
	DropVertex(v int) bool
	AddArc(e, u, v int) api.Errno
	DropArc(e int) api.Errno
	Reach(u, v int) bool
	Walk(u, v int) ([]int, bool)
	Members(v int) []int
	Heads() []int
	Post(v int) int
	Label(v int) []api.Span
}

var _ listed = reach.New()

// plain: a graph of which it is asked by a plain search alone.
type plain struct {
	vs   []int
	arcs map[int]api.Arc
}

func (g plain) has(v int) bool { return slices.Contains(g.vs, v) }

// onward: of each vertex, where arcs lead from it.
func (g plain) onward() map[int][]int {
	onward := map[int][]int{}
	for _, arc := range g.arcs {
		onward[arc.U] = append(onward[arc.U], arc.V)
	}
	return onward
}

// search: all to which one comes from u.
func search(onward map[int][]int, u int) map[int]bool {
	found := map[int]bool{u: true}
	for left := []int{u}; len(left) > 0; {
		at := left[0]
		left = left[1:]
		for _, to := range onward[at] {
			if !found[to] {
				found[to] = true
				left = append(left, to)
			}
		}
	}
	return found
}

// reaching: of each vertex, all that it reaches.
func (g plain) reaching() map[int]map[int]bool {
	onward, reaching := g.onward(), map[int]map[int]bool{}
	for _, u := range g.vs {
		reaching[u] = search(onward, u)
	}
	return reaching
}

// told: a list of arcs, and whether there is one.
type told struct {
	arcs []int
	ok   bool
}

// answers: all that an index tells of these numbers, vertices or not.
type answers struct {
	asked   []int
	reach   [][]bool
	walks   [][]told
	members [][]int
	heads   []int
	posts   []int
	labels  [][]api.Span
}

func ask(x *reach.Index, asked []int) answers {
	a := answers{asked: asked, heads: x.Heads()}
	for _, u := range asked {
		var row []bool
		var walks []told
		for _, v := range asked {
			row = append(row, x.Reach(u, v))
			arcs, ok := x.Walk(u, v)
			walks = append(walks, told{arcs, ok})
		}
		a.reach, a.walks = append(a.reach, row), append(a.walks, walks)
		a.members = append(a.members, x.Members(u))
		a.posts = append(a.posts, x.Post(u))
		a.labels = append(a.labels, x.Label(u))
	}
	return a
}

// same: an empty list and nil are the same.
func (a answers) same(b answers) bool {
	sameWalks := func(a, b []told) bool {
		return slices.EqualFunc(a, b, func(a, b told) bool { return a.ok == b.ok && slices.Equal(a.arcs, b.arcs) })
	}
	return slices.Equal(a.asked, b.asked) && slices.EqualFunc(a.reach, b.reach, slices.Equal) &&
		slices.EqualFunc(a.walks, b.walks, sameWalks) && slices.EqualFunc(a.members, b.members, slices.Equal) &&
		slices.Equal(a.heads, b.heads) && slices.Equal(a.posts, b.posts) && slices.EqualFunc(a.labels, b.labels, slices.Equal)
}

// pair: the thing that is tested, and the plain graph that it has to be like.
type pair struct {
	t *testing.T
	x *reach.Index
	// One that is edited alike, and not asked till askQuiet.
	quiet *reach.Index
	g     plain
	// What was told last, for what changes nothing.
	now answers
	// Numbers of which some are no vertices, asked of behind each edit.
	others []int
	// Each edit so far, for what is told of a fault.
	done []string
}

func newPair(t *testing.T, others ...int) *pair {
	t.Helper()
	p := &pair{t: t, x: reach.New(), quiet: reach.New(), g: plain{arcs: map[int]api.Arc{}}, others: others}
	p.compare()
	return p
}

func (p *pair) fail(form string, args ...any) {
	p.t.Helper()
	p.t.Fatalf("%s; behind %v", fmt.Sprintf(form, args...), p.done)
}

// asked: the vertices rise, so that no edit changes the places of others in answers.
func (p *pair) asked() []int {
	all := slices.Sorted(slices.Values(slices.Concat(p.g.vs, p.others)))
	return slices.Compact(all)
}

// behind holds what an edit answered against what the words say, then all else; refused: nothing is changed.
func behind[A comparable](p *pair, got, quiet, want A, refused bool) {
	p.t.Helper()
	if got != want || quiet != want {
		p.fail("P12.1: %v (and %v, of one that wasn't asked), not %v", got, quiet, want)
	}
	was := p.now
	p.compare()
	if refused && !p.now.same(was) {
		p.fail("P12.1: what was refused has changed %v to %v", was, p.now)
	}
}

func (p *pair) addVertex(v int) bool {
	p.t.Helper()
	p.done = append(p.done, fmt.Sprintf("AddVertex(%d)", v))
	want := !p.g.has(v)
	if want {
		p.g.vs = append(p.g.vs, v)
	}
	behind(p, p.x.AddVertex(v), p.quiet.AddVertex(v), want, !want)
	return want
}

func (p *pair) dropVertex(v int) bool {
	p.t.Helper()
	p.done = append(p.done, fmt.Sprintf("DropVertex(%d)", v))
	want := p.g.has(v)
	for _, arc := range p.g.arcs {
		want = want && arc.U != v && arc.V != v
	}
	if want {
		p.g.vs = slices.DeleteFunc(p.g.vs, func(w int) bool { return w == v })
	}
	behind(p, p.x.DropVertex(v), p.quiet.DropVertex(v), want, !want)
	return want
}

func (p *pair) addArc(e, u, v int) api.Errno {
	p.t.Helper()
	p.done = append(p.done, fmt.Sprintf("AddArc(%d, %d, %d)", e, u, v))
	want := api.OK
	if _, there := p.g.arcs[e]; there {
		want = api.ErrTwice
	} else if !p.g.has(u) || !p.g.has(v) {
		want = api.ErrNoVertex
	} else {
		p.g.arcs[e] = api.Arc{U: u, V: v}
	}
	behind(p, p.x.AddArc(e, u, v), p.quiet.AddArc(e, u, v), want, want != api.OK)
	return want
}

func (p *pair) dropArc(e int) api.Errno {
	p.t.Helper()
	p.done = append(p.done, fmt.Sprintf("DropArc(%d)", e))
	want := api.OK
	if _, there := p.g.arcs[e]; !there {
		want = api.ErrNoEdge
	}
	delete(p.g.arcs, e)
	behind(p, p.x.DropArc(e), p.quiet.DropArc(e), want, want != api.OK)
	return want
}

// compare holds all that is told against the words, twice, as asking changes nothing.
func (p *pair) compare() {
	p.t.Helper()
	p.now = ask(p.x, p.asked())
	reaching := p.g.reaching()
	p.compareReach(reaching)
	p.compareComps(reaching)
	p.compareLabels(reaching)
	if again := ask(p.x, p.asked()); !again.same(p.now) {
		p.fail("P12.1: asked again, it tells %v, not %v", again, p.now)
	}
}

func (p *pair) compareReach(reaching map[int]map[int]bool) {
	p.t.Helper()
	for i, u := range p.now.asked {
		for j, v := range p.now.asked {
			want := reaching[u][v]
			if p.now.reach[i][j] != want {
				p.fail("P12.1: Reach(%d, %d): %v", u, v, !want)
			}
			walk := p.now.walks[i][j]
			if walk.ok != want {
				p.fail("P12.2: Walk(%d, %d): %v, %v", u, v, walk.arcs, walk.ok)
			}
			if fault := p.g.fault(u, v, walk); fault != "" {
				p.fail("P12.2: Walk(%d, %d): %v: %s", u, v, walk.arcs, fault)
			}
		}
	}
}

// fault: what is wrong with a walk from u to v.
func (g plain) fault(u, v int, walk told) string {
	if !walk.ok {
		if len(walk.arcs) > 0 {
			return "arcs beside false"
		}
		return ""
	}
	at, been := u, map[int]bool{u: true}
	for _, e := range walk.arcs {
		arc, there := g.arcs[e]
		switch {
		case !there:
			return fmt.Sprintf("no arc %d", e)
		case arc.U != at:
			return fmt.Sprintf("the arc %d doesn't begin at %d", e, at)
		case been[arc.V]:
			return fmt.Sprintf("it comes to %d twice", arc.V)
		}
		at, been[arc.V] = arc.V, true
	}
	if at != v {
		return fmt.Sprintf("it ends at %d", at)
	}
	return ""
}

func (p *pair) compareComps(reaching map[int]map[int]bool) {
	p.t.Helper()
	var heads []int
	for i, v := range p.now.asked {
		var members []int
		for _, w := range p.now.asked {
			if reaching[v][w] && reaching[w][v] {
				members = append(members, w)
			}
		}
		if !slices.Equal(p.now.members[i], members) {
			p.fail("P12.1: Members(%d): %v, not %v", v, p.now.members[i], members)
		}
		if len(members) > 0 && members[0] == v {
			heads = append(heads, v)
		}
	}
	if !slices.Equal(p.now.heads, heads) {
		p.fail("P12.1: Heads: %v, not %v", p.now.heads, heads)
	}
}

// compareLabels: what Post and Label say, and their form.
func (p *pair) compareLabels(reaching map[int]map[int]bool) {
	p.t.Helper()
	for i, u := range p.now.asked {
		post, label := p.now.posts[i], p.now.labels[i]
		if !p.g.has(u) {
			if post != 0 || len(label) > 0 {
				p.fail("P12.1: %d is no vertex, and has the Post %d and the Label %v", u, post, label)
			}
			continue
		}
		if post < 1 {
			p.fail("P12.1: Post(%d): %d", u, post)
		}
		if !goodRuns(label) {
			p.fail("P12.1: Label(%d): %v", u, label)
		}
		for j, v := range p.now.asked {
			other := p.now.posts[j]
			if got := holds(label, other); p.g.has(v) && got != reaching[u][v] {
				p.fail("P12.1: Label(%d) is %v, Post(%d) is %d; reaches: %v", u, label, v, other, reaching[u][v])
			}
			if (post == other) != (reaching[u][v] && reaching[v][u]) {
				p.fail("P12.1: Post(%d) is %d, Post(%d) is %d", u, post, v, other)
			}
		}
	}
}

// goodRuns: do they rise, with something between any two?
func goodRuns(label []api.Span) bool {
	for i, run := range label {
		if run.Hi < run.Lo || i > 0 && run.Lo <= label[i-1].Hi+1 {
			return false
		}
	}
	return true
}

// holds: is the number in a run?
func holds(label []api.Span, post int) bool {
	return slices.ContainsFunc(label, func(run api.Span) bool { return run.Lo <= post && post <= run.Hi })
}

// askQuiet asks the one that was edited alike, and asked nothing since: it tells the same, the choice of walks and numbers too.
func (p *pair) askQuiet() {
	p.t.Helper()
	if quiet := ask(p.quiet, p.asked()); !quiet.same(p.now) {
		p.fail("P12.1: one that wasn't asked behind each edit tells %v, not %v", quiet, p.now)
	}
}

// addVertices adds those of which all are new.
func (p *pair) addVertices(vs ...int) {
	p.t.Helper()
	for _, v := range vs {
		p.want(p.addVertex(v), true)
	}
}

// addArcs adds arcs that may come: of each three numbers, the arc's, where it begins, where it leads.
func (p *pair) addArcs(threes ...int) {
	p.t.Helper()
	for i := 0; i+2 < len(threes); i += 3 {
		p.wantErrno(p.addArc(threes[i], threes[i+1], threes[i+2]), api.OK)
	}
}

// dropArcs drops arcs that are there.
func (p *pair) dropArcs(es ...int) {
	p.t.Helper()
	for _, e := range es {
		p.wantErrno(p.dropArc(e), api.OK)
	}
}

// want holds an answer against what is written out.
func (p *pair) want(got, want bool) {
	p.t.Helper()
	if got != want {
		p.fail("P12.1: %v, not %v", got, want)
	}
}

// wantErrno holds an error against what is written out.
func (p *pair) wantErrno(got, want api.Errno) {
	p.t.Helper()
	if got != want {
		p.fail("P12.1: %d, not %d", got, want)
	}
}

// wantComps holds the components against what is written out.
func (p *pair) wantComps(comps ...[]int) {
	p.t.Helper()
	var got [][]int
	for _, head := range p.x.Heads() {
		got = append(got, p.x.Members(head))
	}
	if !slices.EqualFunc(got, comps, slices.Equal) {
		p.fail("P12.1: the components are %v, not %v", got, comps)
	}
}

// wantReached holds the vertices that u reaches, rising, against what is written out; by Reach, and by Post and Label.
func (p *pair) wantReached(u int, want ...int) {
	p.t.Helper()
	var got, labelled []int
	for _, v := range p.asked() {
		if p.x.Reach(u, v) {
			got = append(got, v)
		}
		if holds(p.x.Label(u), p.x.Post(v)) {
			labelled = append(labelled, v)
		}
	}
	if !slices.Equal(got, want) || !slices.Equal(labelled, want) {
		p.fail("P12.1: %d reaches %v, by its label %v, not %v", u, got, labelled, want)
	}
}

// wantWalk holds a walk against those that are written out, of which it has to be one.
func (p *pair) wantWalk(u, v int, walks ...[]int) {
	p.t.Helper()
	got, ok := p.x.Walk(u, v)
	if !ok || !slices.ContainsFunc(walks, func(walk []int) bool { return slices.Equal(got, walk) }) {
		p.fail("P12.2: Walk(%d, %d): %v, %v, not one of %v", u, v, got, ok, walks)
	}
}

// wantNoWalk: none, and false.
func (p *pair) wantNoWalk(u, v int) {
	p.t.Helper()
	if got, ok := p.x.Walk(u, v); ok || len(got) > 0 {
		p.fail("P12.2: Walk(%d, %d): %v, %v", u, v, got, ok)
	}
}
