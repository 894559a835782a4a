package cert_test

import (
	"math"
	"slices"
	"testing"

	"bramble/api"
	"bramble/cert"
)

// plain: a graph as it is handed in; to Parts and Labels its edges as arcs.
type plain struct {
	vs []int
	es []api.Edge
}

const (
	minus0   = 0x80000000
	least    = 0x00000001
	one      = 0x3f800000
	two      = 0x40000000
	many     = 0x4b800000 // 2^24: the sum of it and 1 lies between two
	greatest = 0x7f7fffff
	plusInf  = 0x7f800000
)

// bitsOf: those of a number.
func bitsOf(w float32) uint32 { return math.Float32bits(w) }

// edge: with the bits of its weight.
func edge(e, u, v int, bits uint32) api.Edge { return api.Edge{E: e, U: u, V: v, Bits: bits} }

// lines: edges of weight 1, numbered from 1 on; of each two numbers, where one begins and where it leads.
func lines(ends ...int) []api.Edge {
	var es []api.Edge
	for i := 0; i+1 < len(ends); i += 2 {
		es = append(es, edge(1+len(es), ends[i], ends[i+1], one))
	}
	return es
}

// arcs: the edges without numbers and weights.
func (g plain) arcs() []api.Arc {
	var arcs []api.Arc
	for _, x := range g.es {
		arcs = append(arcs, api.Arc{U: x.U, V: x.V})
	}
	return arcs
}

// goodArcs: are the lists of vertices and arcs good?
func (g plain) goodArcs() bool {
	for i, v := range g.vs {
		if slices.Contains(g.vs[:i], v) {
			return false
		}
	}
	for _, x := range g.es {
		if !slices.Contains(g.vs, x.U) || !slices.Contains(g.vs, x.V) {
			return false
		}
	}
	return true
}

// goodEdges: are the lists of vertices and edges good?
func (g plain) goodEdges() bool {
	if !g.goodArcs() {
		return false
	}
	for i, x := range g.es {
		if slices.ContainsFunc(g.es[:i], func(y api.Edge) bool { return y.E == x.E }) {
			return false
		}
		w := math.Float32frombits(x.Bits)
		if x.E < 1 || w != w || w < 0 || w > math.MaxFloat32 {
			return false
		}
	}
	return true
}

// added: the bits of a cost and a weight together, worked out with more bits than a float32 has, so that one rounding is made.
func added(cost, w uint32) uint32 {
	if w == minus0 {
		w = 0
	}
	return bitsOf(float32(float64(math.Float32frombits(cost)) + float64(math.Float32frombits(w))))
}

// byAllWalks: the least cost of all walks without loops from s, of each vertex to which one leads.
func byAllWalks(g plain, s int) map[int]uint32 {
	costs := map[int]uint32{}
	var goOn func(at int, cost uint32, been []int)
	goOn = func(at int, cost uint32, been []int) {
		if slices.Contains(been, at) {
			return
		}
		if least, ok := costs[at]; !ok || cost < least {
			costs[at] = cost
		}
		been = append(slices.Clone(been), at)
		for _, x := range g.es {
			if x.U == at {
				goOn(x.V, added(cost, x.Bits), been)
			}
		}
	}
	goOn(s, 0, nil)
	return costs
}

// bySteps: the least cost of all walks, those with loops too: of one edge more at each turn, till no turn makes one cheaper.
func bySteps(g plain, s int) map[int]uint32 {
	costs := map[int]uint32{s: 0}
	for again := true; again; {
		again = false
		for _, x := range g.es {
			cost, ok := costs[x.U]
			if !ok {
				continue
			}
			sum := added(cost, x.Bits)
			if least, ok := costs[x.V]; !ok || sum < least {
				costs[x.V], again = sum, true
			}
		}
	}
	return costs
}

// reaching: of each pair of vertices, does a plain search come from the one to the other?
func reaching(g plain) map[api.Arc]bool {
	onward := map[int][]int{}
	for _, x := range g.es {
		onward[x.U] = append(onward[x.U], x.V)
	}
	reach := map[api.Arc]bool{}
	for _, u := range g.vs {
		reach[api.Arc{U: u, V: u}] = true
		for left := []int{u}; len(left) > 0; {
			at := left[0]
			left = left[1:]
			for _, v := range onward[at] {
				if !reach[api.Arc{U: u, V: v}] {
					reach[api.Arc{U: u, V: v}] = true
					left = append(left, v)
				}
			}
		}
	}
	return reach
}

// truth: what is known of a graph; what isn't known of lists that aren't good isn't asked.
type truth struct {
	g                   plain
	arcs                []api.Arc
	goodArcs, goodEdges bool
	reach               map[api.Arc]bool
	comps               [][]int
	model               func(g plain, s int) map[int]uint32
	// From each source that was asked for.
	costs map[int]map[int]uint32
}

// know: of a graph, by the costs of all walks without loops.
func know(g plain) *truth { return knowBy(g, byAllWalks) }

// knowBy: of a graph, by such a model of distances.
func knowBy(g plain, model func(g plain, s int) map[int]uint32) *truth {
	k := &truth{g: g, arcs: g.arcs(), goodArcs: g.goodArcs(), goodEdges: g.goodEdges(), model: model, costs: map[int]map[int]uint32{}}
	if !k.goodArcs {
		return k
	}
	k.reach = reaching(g)
	for i, u := range g.vs {
		together := func(v int) bool { return k.reaches(u, v) && k.reaches(v, u) }
		if slices.ContainsFunc(g.vs[:i], together) {
			continue
		}
		var comp []int
		for _, v := range g.vs {
			if together(v) {
				comp = append(comp, v)
			}
		}
		k.comps = append(k.comps, comp)
	}
	return k
}

func (k *truth) reaches(u, v int) bool { return k.reach[api.Arc{U: u, V: v}] }

func (k *truth) costsFrom(s int) map[int]uint32 {
	if k.costs[s] == nil {
		k.costs[s] = k.model(k.g, s)
	}
	return k.costs[s]
}

// rightParts: what the chapter's words say of these lists.
func (k *truth) rightParts(comps [][]int) bool {
	if !k.goodArcs || len(comps) != len(k.comps) {
		return false
	}
	for _, comp := range k.comps {
		if !slices.ContainsFunc(comps, func(list []int) bool {
			return len(list) == len(comp) && !slices.ContainsFunc(comp, func(v int) bool { return !slices.Contains(list, v) })
		}) {
			return false
		}
	}
	return true
}

// rightLabels: what the chapter's words say of these labels.
func (k *truth) rightLabels(ls []api.Label) bool {
	if !k.goodArcs || len(ls) != len(k.g.vs) {
		return false
	}
	for _, v := range k.g.vs {
		if !slices.ContainsFunc(ls, func(l api.Label) bool { return l.V == v }) {
			return false
		}
	}
	for _, a := range ls {
		for _, b := range ls {
			in := false
			for _, run := range a.Runs {
				in = in || run.Lo <= b.Post && b.Post <= run.Hi
			}
			if in != k.reaches(a.V, b.V) {
				return false
			}
		}
	}
	return true
}

// rightTree: what the chapter's words say of this tree.
func (k *truth) rightTree(t api.Tree) bool {
	if !k.goodEdges || !slices.Contains(k.g.vs, t.Source) || len(t.Dists) != len(k.g.vs) {
		return false
	}
	costs := k.costsFrom(t.Source)
	for _, v := range k.g.vs {
		at := slices.IndexFunc(t.Dists, func(d api.Dist) bool { return d.V == v })
		if at < 0 {
			return false
		}
		d := t.Dists[at]
		cost, led := costs[v]
		switch {
		case !led:
			if d != (api.Dist{V: v, Far: true}) {
				return false
			}
		case d.Far || d.Bits != cost:
			return false
		case v == t.Source:
			if d.Edge != 0 {
				return false
			}
		case !k.wayBack(t, v, cost):
			return false
		}
	}
	return true
}

// wayBack: do the edges that one meets on the way back from v come to the source, and are they from there a walk of this cost?
func (k *truth) wayBack(t api.Tree, v int, cost uint32) bool {
	var met []api.Edge
	for at := v; at != t.Source; {
		dist := slices.IndexFunc(t.Dists, func(d api.Dist) bool { return d.V == at })
		if dist < 0 || len(met) > len(t.Dists) {
			return false
		}
		e := slices.IndexFunc(k.g.es, func(x api.Edge) bool { return x.E == t.Dists[dist].Edge })
		if e < 0 || k.g.es[e].V != at {
			return false
		}
		met, at = append(met, k.g.es[e]), k.g.es[e].U
	}
	sum := uint32(0)
	for _, x := range slices.Backward(met) {
		sum = added(sum, x.Bits)
	}
	return sum == cost
}

// tryParts holds the answer against the chapter's words, and tells it.
func (k *truth) tryParts(t *testing.T, comps [][]int) bool {
	t.Helper()
	want := k.rightParts(comps)
	if got := cert.Parts(k.g.vs, k.arcs, comps); got != want {
		t.Fatalf("P15.1: Parts of %v, %v: %v: %v", k.g.vs, k.arcs, comps, got)
	}
	return want
}

// tryLabels holds the answer against the chapter's words, and tells it.
func (k *truth) tryLabels(t *testing.T, ls []api.Label) bool {
	t.Helper()
	want := k.rightLabels(ls)
	if got := cert.Labels(k.g.vs, k.arcs, ls); got != want {
		t.Fatalf("P15.1: Labels of %v, %v: %v: %v", k.g.vs, k.arcs, ls, got)
	}
	return want
}

// tryTree holds the answer against the chapter's words, and tells it.
func (k *truth) tryTree(t *testing.T, claim api.Tree) bool {
	t.Helper()
	want := k.rightTree(claim)
	if got := cert.Tree(k.g.vs, k.g.es, claim); got != want {
		t.Fatalf("P15.1: Tree of %v: %v: %v", k.g, claim, got)
	}
	return want
}

// wantParts: this answer, which is that of the chapter's words too.
func wantParts(t *testing.T, g plain, want bool, comps ...[]int) {
	t.Helper()
	if got := know(g).tryParts(t, comps); got != want {
		t.Fatalf("P15.1: Parts of %v: %v: %v", g, comps, got)
	}
}

// wantLabels: likewise.
func wantLabels(t *testing.T, g plain, want bool, ls ...api.Label) {
	t.Helper()
	if got := know(g).tryLabels(t, ls); got != want {
		t.Fatalf("P15.1: Labels of %v: %v: %v", g, ls, got)
	}
}

// wantTree: likewise.
func wantTree(t *testing.T, g plain, want bool, source int, dists ...api.Dist) {
	t.Helper()
	if got := know(g).tryTree(t, api.Tree{Source: source, Dists: dists}); got != want {
		t.Fatalf("P15.1: Tree of %v from %d: %v: %v", g, source, dists, got)
	}
}

// label: its runs are given by their ends.
func label(v, post int, ends ...int) api.Label {
	l := api.Label{V: v, Post: post}
	for i := 0; i+1 < len(ends); i += 2 {
		l.Runs = append(l.Runs, api.Span{Lo: ends[i], Hi: ends[i+1]})
	}
	return l
}

// dist: of a vertex to which a walk leads.
func dist(v int, bits uint32, e int) api.Dist { return api.Dist{V: v, Bits: bits, Edge: e} }

// far: of a vertex to which none leads.
func far(v int) api.Dist { return api.Dist{V: v, Far: true} }
