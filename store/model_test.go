package store_test

import (
	"math"
	"math/rand/v2"
	"slices"
	"testing"

	"bramble/api"
	"bramble/store"
)

// model: the chapter's words over two plain lists, in no order.
type model struct {
	vertices      []int
	edges         []api.Edge
	reads, writes int
}

func (m *model) has(v int) bool { return slices.Contains(m.vertices, v) }

// find: where the edge e stands in the list; -1, if there is none.
func (m *model) find(e int) int {
	return slices.IndexFunc(m.edges, func(x api.Edge) bool { return x.E == e })
}

// weigh: the bits of a record whose weight is given by these bits; false, if they are no weight's.
func weigh(bits uint32) (uint32, bool) {
	w := float64(math.Float32frombits(bits))
	if math.IsNaN(w) || math.IsInf(w, 0) || w < 0 {
		return 0, false
	}
	if w == 0 {
		return 0, true
	}
	return bits, true
}

func (m *model) addVertex(v int) api.Errno {
	switch {
	case v < 0 || v > 1<<31-1:
		return api.ErrVertex
	case m.has(v):
		return api.ErrTwice
	case len(m.vertices) == 256:
		return api.ErrTooMany
	}
	m.vertices = append(m.vertices, v)
	return api.OK
}

func (m *model) dropVertex(v int) ([]api.Edge, api.Errno) {
	if !m.has(v) {
		return nil, api.ErrNoVertex
	}
	var left, gone []api.Edge
	for _, x := range m.edges {
		if x.U == v || x.V == v {
			gone = append(gone, x)
		} else {
			left = append(left, x)
		}
	}
	m.edges = left
	m.vertices = slices.DeleteFunc(m.vertices, func(x int) bool { return x == v })
	m.writes += len(gone)
	slices.SortFunc(gone, func(a, b api.Edge) int { return a.E - b.E })
	return gone, api.OK
}

func (m *model) addEdge(u, v int, bits uint32) (int, api.Errno) {
	kept, ok := weigh(bits)
	switch {
	case !m.has(u) || !m.has(v):
		return 0, api.ErrNoVertex
	case !ok:
		return 0, api.ErrBadWeight
	case len(m.edges) == 1024:
		return 0, api.ErrTooMany
	}
	e := m.free()
	m.edges = append(m.edges, api.Edge{E: e, U: u, V: v, Bits: kept})
	m.writes++
	return e, api.OK
}

func (m *model) putEdge(x api.Edge) api.Errno {
	kept, ok := weigh(x.Bits)
	switch {
	case x.E < 1 || x.E > 1024:
		return api.ErrRange
	case !m.has(x.U) || !m.has(x.V):
		return api.ErrNoVertex
	case !ok:
		return api.ErrBadWeight
	case m.find(x.E) >= 0:
		return api.ErrTwice
	}
	x.Bits = kept
	m.edges = append(m.edges, x)
	m.writes++
	return api.OK
}

func (m *model) dropEdge(e int) (api.Edge, api.Errno) {
	at := m.find(e)
	if at < 0 {
		return api.Edge{}, api.ErrNoEdge
	}
	x := m.edges[at]
	m.edges = slices.Delete(m.edges, at, at+1)
	m.writes++
	return x, api.OK
}

func (m *model) reweigh(e int, bits uint32) (uint32, api.Errno) {
	at := m.find(e)
	if at < 0 {
		return 0, api.ErrNoEdge
	}
	kept, ok := weigh(bits)
	if !ok {
		return 0, api.ErrBadWeight
	}
	was := m.edges[at].Bits
	m.edges[at].Bits = kept
	m.writes++
	return was, api.OK
}

func (m *model) edge(e int) (api.Edge, api.Errno) {
	at := m.find(e)
	if at < 0 {
		return api.Edge{}, api.ErrNoEdge
	}
	m.reads++
	return m.edges[at], api.OK
}

func (m *model) free() int {
	taken := make([]bool, 1026)
	for _, x := range m.edges {
		taken[x.E] = true
	}
	for e := 1; e <= 1024; e++ {
		if !taken[e] {
			return e
		}
	}
	return 0
}

// numbers: of the edges that the condition holds of, rising.
func (m *model) numbers(holds func(x api.Edge) bool) []int {
	var list []int
	for _, x := range m.edges {
		if holds(x) {
			list = append(list, x.E)
		}
	}
	slices.Sort(list)
	return list
}

// pair: a store and its model, to which the same is done.
type pair struct {
	t *testing.T
	s *store.Store
	m *model
}

func newPair(t *testing.T) *pair { return &pair{t, store.New(), &model{}} }

// call: one call that is handed something, and may change what is told later.
type call struct {
	name string
	x    api.Edge // of a vertex's call, the vertex is U
}

// answer: of such a call, all that it answers.
type answer struct {
	number int
	bits   uint32
	edge   api.Edge
	edges  []api.Edge
	errno  api.Errno
}

func (p *pair) ofStore(c call) (a answer) {
	switch c.name {
	case "AddVertex":
		a.errno = p.s.AddVertex(c.x.U)
	case "DropVertex":
		a.edges, a.errno = p.s.DropVertex(c.x.U)
	case "AddEdge":
		a.number, a.errno = p.s.AddEdge(c.x.U, c.x.V, c.x.Bits)
	case "PutEdge":
		a.errno = p.s.PutEdge(c.x)
	case "DropEdge":
		a.edge, a.errno = p.s.DropEdge(c.x.E)
	case "Reweigh":
		a.bits, a.errno = p.s.Reweigh(c.x.E, c.x.Bits)
	case "Edge":
		a.edge, a.errno = p.s.Edge(c.x.E)
	default:
		panic("no call is named so: " + c.name)
	}
	return a
}

func (p *pair) ofModel(c call) (a answer) {
	switch c.name {
	case "AddVertex":
		a.errno = p.m.addVertex(c.x.U)
	case "DropVertex":
		a.edges, a.errno = p.m.dropVertex(c.x.U)
	case "AddEdge":
		a.number, a.errno = p.m.addEdge(c.x.U, c.x.V, c.x.Bits)
	case "PutEdge":
		a.errno = p.m.putEdge(c.x)
	case "DropEdge":
		a.edge, a.errno = p.m.dropEdge(c.x.E)
	case "Reweigh":
		a.bits, a.errno = p.m.reweigh(c.x.E, c.x.Bits)
	case "Edge":
		a.edge, a.errno = p.m.edge(c.x.E)
	}
	return a
}

func (a answer) same(b answer) bool {
	return a.number == b.number && a.bits == b.bits && a.edge == b.edge && slices.Equal(a.edges, b.edges) && a.errno == b.errno
}

// do makes the call of both, and answers the error.
func (p *pair) do(c call) api.Errno {
	p.t.Helper()
	got, want := p.ofStore(c), p.ofModel(c)
	if !got.same(want) {
		p.t.Fatalf("%s %v: %+v, not %+v; there is now: %v %v", c.name, c.x, got, want, p.m.vertices, p.m.edges)
	}
	if p.s.Reads() != p.m.reads || p.s.Writes() != p.m.writes {
		p.t.Fatalf("Reads, Writes behind %s %v: %d, %d, not %d, %d", c.name, c.x, p.s.Reads(), p.s.Writes(), p.m.reads, p.m.writes)
	}
	return got.errno
}

// compare holds what the calls that change nothing answer against the model's answers, of these vertices and of all
// that are there.
func (p *pair) compare(vertices ...int) {
	p.t.Helper()
	all := slices.Sorted(slices.Values(p.m.vertices))
	p.list("Vertices", p.s.Vertices(), all)
	p.list("Edges", p.s.Edges(), p.m.numbers(func(api.Edge) bool { return true }))
	for _, v := range slices.Concat(all, vertices) {
		if got := p.s.Has(v); got != p.m.has(v) {
			p.t.Fatalf("Has(%d): %v; there is: %v", v, got, all)
		}
		p.list("Out", p.s.Out(v), p.m.numbers(func(x api.Edge) bool { return x.U == v }))
		p.list("In", p.s.In(v), p.m.numbers(func(x api.Edge) bool { return x.V == v }))
	}
	if got, want := p.s.Free(), p.m.free(); got != want {
		p.t.Fatalf("Free: %d, not %d; there is: %v", got, want, p.m.edges)
	}
	if p.s.Reads() != p.m.reads || p.s.Writes() != p.m.writes {
		p.t.Fatalf("Reads, Writes: %d, %d, not %d, %d", p.s.Reads(), p.s.Writes(), p.m.reads, p.m.writes)
	}
}

func (p *pair) list(what string, got, want []int) {
	p.t.Helper()
	if !slices.Equal(got, want) {
		p.t.Fatalf("%s: %v, not %v; there is: %v %v", what, got, want, p.m.vertices, p.m.edges)
	}
}

// read asks for the records of these edges and of all that are there, which the gauge counts.
func (p *pair) read(edges ...int) {
	p.t.Helper()
	for _, e := range append(p.m.numbers(func(api.Edge) bool { return true }), edges...) {
		p.do(call{"Edge", api.Edge{E: e}})
	}
}

// someBits: of weights, at the edges of what is one, and of what is none.
func someBits() []uint32 {
	return []uint32{0, 1, 0x007fffff, 0x00800000, 0x3f800000, 0x40490fdb, 0x7f7fffff, 0x80000000,
		0x7f800000, 0x7f800001, 0x7fbfffff, 0x7fc00000, 0x7fffffff,
		0x80000001, 0x807fffff, 0xbf800000, 0xff7fffff, 0xff800000, 0xff800001, 0xffc00000, 0xffffffff}
}

// mixture: how calls are drawn, of which vertices, numbers and bits.
type mixture struct {
	vertices []int
	numbers  []int
	bits     []uint32
}

func pick[T any](r *rand.Rand, list []T) T { return list[r.IntN(len(list))] }

// run makes mixtures of calls, the same ones in every run: some that let the graph grow, some that let it shrink.
func (m mixture) run(t *testing.T, calls int) {
	t.Helper()
	r := rand.New(rand.NewPCG(7, uint64(len(m.vertices)*100+len(m.numbers))))
	p := newPair(t)
	p.compare(m.vertices...)
	grow := 14
	for i := range calls {
		c := call{x: api.Edge{E: pick(r, m.numbers), U: pick(r, m.vertices), V: pick(r, m.vertices), Bits: pick(r, m.bits)}}
		switch kind := r.IntN(24); {
		case kind < grow:
			c.name = pick(r, []string{"AddVertex", "AddEdge", "AddEdge", "PutEdge"})
		case kind == 23:
			c.name = "DropVertex"
		default:
			c.name = pick(r, []string{"DropEdge", "DropEdge", "Reweigh", "Edge"})
		}
		p.do(c)
		p.compare(m.vertices...)
		if i%40 == 0 {
			p.read(m.numbers...)
			p.compare(m.vertices...)
			grow = 6 + r.IntN(15)
		}
	}
}

func TestManyCalls(t *testing.T) {
	few := []uint32{0, 1, 0x3f800000, 0x7f7fffff, 0x80000000, 0x7fc00000}
	t.Run("of one vertex", func(t *testing.T) {
		mixture{[]int{0}, []int{0, 1, 2, 3}, few}.run(t, 2000)
	})
	t.Run("of few vertices", func(t *testing.T) {
		mixture{[]int{0, 1, 5, math.MaxInt32}, []int{-1, 1, 2, 3, 4, 5, 1024}, few}.run(t, 6000)
	})
	t.Run("of some vertices", func(t *testing.T) {
		mixture{[]int{9, 3, 7, 1, 8, 2, 100, 4, 1 << 30}, between(0, 40), few}.run(t, 6000)
	})
	t.Run("of all kinds of numbers", func(t *testing.T) {
		vertices := []int{math.MinInt, -1 << 31, -1, 0, 1, 2, 1<<31 - 2, 1<<31 - 1, 1 << 31, 1<<31 + 1, 1 << 32, math.MaxInt}
		numbers := []int{math.MinInt, -1024, -1, 0, 1, 2, 3, 1023, 1024, 1025, 65536, 1<<32 + 1, math.MaxInt}
		mixture{vertices, numbers, someBits()}.run(t, 6000)
	})
}

// between: all numbers from lo to hi.
func between(lo, hi int) []int {
	var all []int
	for n := lo; n <= hi; n++ {
		all = append(all, n)
	}
	return all
}
