package tree_test

import (
	"math/rand/v2"
	"slices"
	"testing"

	"bramble/api"
	"bramble/tree"
)

// several: graphs of all kinds, with faults too.
func several() []plain {
	r := rand.New(rand.NewPCG(13, 5))
	list := []plain{
		{}, {vs: []int{8}, s: 8}, {[]int{8}, []api.Edge{edge(1, 8, 8, 0)}, 8}, {vs: []int{3, 2, 1}, s: 2}, ring(), path(12, one),
		{[]int{2, 1, 2}, []api.Edge{edge(1, 1, 2, 1)}, 1}, {[]int{2, 1}, []api.Edge{edge(0, 1, 2, 1)}, 1},
		{[]int{2, 1}, []api.Edge{edge(1, 1, 3, 1)}, 1}, {[]int{2, 1}, []api.Edge{edge(1, 1, 2, -1)}, 1},
	}
	for n := 1; n < 25; n++ {
		list = append(list, drawn(r, n, n), mild(r, drawn(r, n, 3*n)))
	}
	return list
}

// memory: lists in the midst of other things, with spare room behind them.
type memory struct {
	numbers []int
	edges   []api.Edge
}

const ahead, room = 2, 40

var (
	spoiltEdge = api.Edge{E: -77, U: -77, V: -77, Bits: 77}
	spoiltDist = api.Dist{V: -77, Far: true, Bits: 77, Edge: -77}
)

// roomy: the same lists in such memory.
func roomy(g plain) (plain, memory) {
	numbers := slices.Concat(slices.Repeat([]int{-11}, ahead), g.vs, slices.Repeat([]int{-13}, room))
	edges := slices.Concat(slices.Repeat([]api.Edge{edge(-11, -11, -11, 1)}, ahead), g.es, slices.Repeat([]api.Edge{edge(-13, -13, -13, 1)}, room))
	return plain{numbers[ahead : ahead+len(g.vs)], edges[ahead : ahead+len(g.es)], g.s}, memory{numbers, edges}
}

func (m memory) clone() memory { return memory{slices.Clone(m.numbers), slices.Clone(m.edges)} }

func (m memory) equal(other memory) bool {
	return slices.Equal(m.numbers, other.numbers) && slices.Equal(m.edges, other.edges)
}

// picture: all that a tree answers of some numbers.
type picture struct {
	source  int
	bits    []uint32
	errnos  []api.Errno
	lasts   []int
	reached []int
	dists   []api.Dist
	paths   [][]int
}

func pictureOf(x *tree.Tree, asked []int) picture {
	p := picture{source: x.Source(), reached: x.Reached(), dists: x.Dists()}
	for _, v := range asked {
		bits, errno := x.Dist(v)
		path, second := x.Path(v)
		p.bits, p.errnos = append(p.bits, bits), append(p.errnos, errno, second)
		p.lasts, p.paths = append(p.lasts, x.Last(v)), append(p.paths, path)
	}
	return p
}

func (p picture) clone() picture {
	c := p
	c.reached, c.dists, c.paths = slices.Clone(p.reached), slices.Clone(p.dists), nil
	for _, path := range p.paths {
		c.paths = append(c.paths, slices.Clone(path))
	}
	return c
}

func (p picture) equal(q picture) bool {
	return p.source == q.source && slices.Equal(p.bits, q.bits) && slices.Equal(p.errnos, q.errnos) && slices.Equal(p.lasts, q.lasts) &&
		slices.Equal(p.reached, q.reached) && slices.Equal(p.dists, q.dists) && slices.EqualFunc(p.paths, q.paths, slices.Equal)
}

// appendTo appends to each list that was answered.
func (p picture) appendTo() {
	for _, list := range append(slices.Clone(p.paths), p.reached) {
		_ = append(list, -77)
		_ = append(list, -77, -77, -77)
	}
	_ = append(p.dists, spoiltDist)
	_ = append(p.dists, spoiltDist, spoiltDist, spoiltDist)
}

// spoil writes into each list that was answered, and into its spare room.
func (p picture) spoil() {
	for _, list := range append(slices.Clone(p.paths), p.reached) {
		fill(list, -77)
	}
	fill(p.dists, spoiltDist)
}

// fill writes a thing into a list and into its spare room.
func fill[T any](list []T, thing T) {
	list = list[:cap(list)]
	for i := range list {
		list[i] = thing
	}
}

// askedOf: each vertex, and numbers that are none.
func askedOf(g plain) []int { return append(strangers(g), g.vs...) }

func TestListsStay(t *testing.T) {
	for _, g := range several() {
		given, whole := roomy(g)
		was := whole.clone()
		look := func(when string) {
			t.Helper()
			if !whole.equal(was) {
				t.Fatalf("P13.3: behind %s the lists of %v are %v", when, g, whole)
			}
		}
		x, errno := tree.Build(given.vs, given.es, given.s)
		look("Build")
		if errno != api.OK {
			continue
		}
		p := pictureOf(x, askedOf(g))
		look("the calls")
		p.appendTo()
		look("an append")
		p.spoil()
		look("the writing")
	}
}

// What is written into the lists that were handed in, once the tree is built, is seen in no answer.
func TestListsAreNotKept(t *testing.T) {
	for _, g := range several() {
		given, whole := roomy(g)
		x, errno := tree.Build(given.vs, given.es, given.s)
		if errno != api.OK {
			continue
		}
		want := pictureOf(build(t, g), askedOf(g))
		fill(whole.numbers, -77)
		fill(whole.edges, spoiltEdge)
		if got := pictureOf(x, askedOf(g)); !got.equal(want) {
			t.Fatalf("P13.3: of %v: %v, not %v", g, got, want)
		}
	}
}

// What is appended to, or written into, answered lists is seen in no later answer, of this tree or of others.
func TestAnswersAreNotKept(t *testing.T) {
	for _, g := range several() {
		x, errno := tree.Build(g.vs, g.es, g.s)
		if errno != api.OK {
			continue
		}
		other := build(t, g)
		asked := askedOf(g)
		first := pictureOf(x, asked)
		want := first.clone()
		first.appendTo()
		if !first.equal(want) {
			t.Fatalf("P13.3: behind an append an answer of earlier is %v, not %v", first, want)
		}
		if got := pictureOf(x, asked); !got.equal(want) {
			t.Fatalf("P13.3: behind an append: %v, not %v", got, want)
		}
		first.spoil()
		for _, y := range []*tree.Tree{x, other, build(t, g)} {
			if got := pictureOf(y, asked); !got.equal(want) {
				t.Fatalf("P13.3: behind the writing: %v, not %v", got, want)
			}
		}
	}
}

// What is written into one answered list is seen in no other one that was answered, before or after.
func TestAnswersApart(t *testing.T) {
	for _, g := range several() {
		x, errno := tree.Build(g.vs, g.es, g.s)
		if errno != api.OK {
			continue
		}
		a, b := pictureOf(x, askedOf(g)), pictureOf(x, askedOf(g))
		all := slices.Concat(a.paths, b.paths, [][]int{a.reached, b.reached})
		var was [][]int
		for _, list := range all {
			was = append(was, slices.Clone(list))
		}
		dists := slices.Clone(b.dists)
		fill(a.dists, spoiltDist)
		if !slices.Equal(b.dists, dists) {
			t.Fatalf("P13.3: another answer of Dists is %v", b.dists)
		}
		for at, list := range all {
			fill(list, -77)
			fill(was[at], -77)
			for other := range all {
				if !slices.Equal(all[other], was[other]) {
					t.Fatalf("P13.3: another list is %v, and was %v", all[other], was[other])
				}
			}
		}
	}
}

// Trees of other lists are apart from each other, and each stays as it is while others are built.
func TestTreesApart(t *testing.T) {
	var trees []*tree.Tree
	var graphs []plain
	var was []picture
	for _, g := range several() {
		for _, s := range g.vs {
			if x, errno := tree.Build(g.vs, g.es, s); errno == api.OK {
				trees, graphs = append(trees, x), append(graphs, plain{g.vs, g.es, s})
				was = append(was, pictureOf(x, g.vs))
			}
		}
	}
	for i, x := range trees {
		if got := pictureOf(x, graphs[i].vs); !got.equal(was[i]) || got.source != graphs[i].s {
			t.Fatalf("P13.3: of %v: %v, not %v", graphs[i], got, was[i])
		}
	}
}

// The choice of paths is free, but of the same calls it is the same.
func TestSameCallsSameAnswers(t *testing.T) {
	for _, g := range several() {
		if _, errno := tree.Build(g.vs, g.es, g.s); errno != api.OK {
			continue
		}
		want := pictureOf(build(t, g), askedOf(g))
		for range 5 {
			if got := pictureOf(build(t, g), askedOf(g)); !got.equal(want) {
				t.Fatalf("R7: of %v: %v, not %v", g, got, want)
			}
		}
	}
}

// An answer may be handed in, as any list.
func TestAnswerHandedIn(t *testing.T) {
	x := build(t, ring())
	reached := x.Reached()
	y := build(t, plain{reached, []api.Edge{edge(3, 1, 5, 4)}, 1})
	wantDist(t, y, 5, bitsOf(4))
	wantPath(t, y, 5, []int{3})
	if !slices.Equal(reached, []int{1, 5, 9}) {
		t.Errorf("P13.3: the list that was handed in is %v", reached)
	}
	fill(reached, -77)
	wantReached(t, y, 1, 5)
	wantReached(t, x, 1, 5, 9)
}
