package parts_test

import (
	"cmp"
	"math/rand/v2"
	"slices"
	"testing"

	"bramble/parts"
)

// model: the chapter's words over plain lists, one a part, in no order.
type model[K cmp.Ordered] struct {
	parts [][]K
}

// of: where k's part stands among the parts; -1, if k isn't in.
func (m *model[K]) of(k K) int {
	for at, part := range m.parts {
		for _, x := range part {
			if x == k {
				return at
			}
		}
	}
	return -1
}

func (m *model[K]) remove(at int) []K {
	part := m.parts[at]
	m.parts = append(m.parts[:at:at], m.parts[at+1:]...)
	return part
}

func (m *model[K]) add(k K) bool {
	if m.of(k) >= 0 {
		return false
	}
	m.parts = append(m.parts, []K{k})
	return true
}

func (m *model[K]) drop(k K) bool {
	at := m.of(k)
	if at < 0 {
		return false
	}
	var left []K
	for _, x := range m.remove(at) {
		if x != k {
			left = append(left, x)
		}
	}
	if len(left) > 0 {
		m.parts = append(m.parts, left)
	}
	return true
}

func (m *model[K]) join(a, b K) bool {
	if m.of(a) < 0 || m.of(b) < 0 || m.of(a) == m.of(b) {
		return false
	}
	one := m.remove(m.of(a))
	other := m.remove(m.of(b))
	m.parts = append(m.parts, append(one[:len(one):len(one)], other...))
	return true
}

func (m *model[K]) burst(k K) bool {
	at := m.of(k)
	if at < 0 {
		return false
	}
	for _, x := range m.remove(at) {
		m.parts = append(m.parts, []K{x})
	}
	return true
}

func (m *model[K]) same(a, b K) bool { return m.of(a) >= 0 && m.of(a) == m.of(b) }

func (m *model[K]) members(k K) []K {
	at := m.of(k)
	if at < 0 {
		return nil
	}
	return rising(m.parts[at])
}

func (m *model[K]) head(k K) (h K, ok bool) {
	at := m.of(k)
	if at < 0 {
		return h, false
	}
	return least(m.parts[at]), true
}

func (m *model[K]) heads() []K {
	var all []K
	for _, part := range m.parts {
		all = append(all, least(part))
	}
	return rising(all)
}

func (m *model[K]) len() int {
	n := 0
	for _, part := range m.parts {
		n += len(part)
	}
	return n
}

func least[K cmp.Ordered](list []K) K {
	l := list[0]
	for _, x := range list {
		if x < l {
			l = x
		}
	}
	return l
}

// rising: the list's things, sorted by <, in new memory.
func rising[K cmp.Ordered](list []K) []K {
	var sorted []K
	for _, x := range list {
		at := 0
		for at < len(sorted) && sorted[at] < x {
			at++
		}
		sorted = slices.Insert(sorted, at, x)
	}
	return sorted
}

// pair: parts and their model, to which the same is done.
type pair[K cmp.Ordered] struct {
	t *testing.T
	p *parts.Parts[K]
	m *model[K]
}

func newPair[K cmp.Ordered](t *testing.T) *pair[K] {
	return &pair[K]{t, parts.New[K](), &model[K]{}}
}

func (p *pair[K]) add(k K) {
	p.t.Helper()
	got := p.p.Add(k)
	if want := p.m.add(k); got != want {
		p.t.Fatalf("Add(%v): %v, not %v; there is: %v", k, got, want, p.m.parts)
	}
}

func (p *pair[K]) drop(k K) {
	p.t.Helper()
	got := p.p.Drop(k)
	if want := p.m.drop(k); got != want {
		p.t.Fatalf("Drop(%v): %v, not %v; left: %v", k, got, want, p.m.parts)
	}
}

func (p *pair[K]) join(a, b K) {
	p.t.Helper()
	got := p.p.Join(a, b)
	if want := p.m.join(a, b); got != want {
		p.t.Fatalf("Join(%v, %v): %v, not %v; there is: %v", a, b, got, want, p.m.parts)
	}
}

func (p *pair[K]) burst(k K) {
	p.t.Helper()
	got := p.p.Burst(k)
	if want := p.m.burst(k); got != want {
		p.t.Fatalf("Burst(%v): %v, not %v; there is: %v", k, got, want, p.m.parts)
	}
}

// compare holds all that can be told of these things against the model's answers.
func (p *pair[K]) compare(things []K) {
	p.t.Helper()
	if got, want := p.p.Len(), p.m.len(); got != want {
		p.t.Fatalf("Len: %d, not %d; there is: %v", got, want, p.m.parts)
	}
	if got, want := p.p.Heads(), p.m.heads(); !slices.Equal(got, want) {
		p.t.Fatalf("Heads: %v, not %v; there is: %v", got, want, p.m.parts)
	}
	for _, k := range things {
		h, ok := p.p.Head(k)
		if wh, wok := p.m.head(k); h != wh || ok != wok {
			p.t.Fatalf("Head(%v): %v, %v, not %v, %v; there is: %v", k, h, ok, wh, wok, p.m.parts)
		}
		if got, want := p.p.Members(k), p.m.members(k); !slices.Equal(got, want) {
			p.t.Fatalf("Members(%v): %v, not %v; there is: %v", k, got, want, p.m.parts)
		}
		for _, l := range things {
			if got, want := p.p.Same(k, l), p.m.same(k, l); got != want {
				p.t.Fatalf("Same(%v, %v): %v, not %v; there is: %v", k, l, got, want, p.m.parts)
			}
		}
	}
}

// call: one call that may change parts.
type call[K cmp.Ordered] struct {
	kind byte
	a, b K
}

func (p *pair[K]) do(c call[K]) {
	p.t.Helper()
	switch c.kind {
	case 'a':
		p.add(c.a)
	case 'd':
		p.drop(c.a)
	case 'j':
		p.join(c.a, c.b)
	case 'b':
		p.burst(c.a)
	}
}

func everyCall[K cmp.Ordered](things []K) []call[K] {
	var all []call[K]
	for _, a := range things {
		all = append(all, call[K]{'a', a, a}, call[K]{'d', a, a}, call[K]{'b', a, a})
	}
	return append(all, everyJoin(things)...)
}

// everyJoin: of each thing with each, itself too.
func everyJoin[K cmp.Ordered](things []K) []call[K] {
	var all []call[K]
	for _, a := range things {
		for _, b := range things {
			all = append(all, call[K]{'j', a, b})
		}
	}
	return all
}

// runCalls makes mixtures of calls, the same ones in every run: some that let parts grow, some that let them fall.
func runCalls[K cmp.Ordered](t *testing.T, things []K, calls int) {
	t.Helper()
	r := rand.New(rand.NewPCG(5, uint64(len(things))))
	p := newPair[K](t)
	p.compare(things)
	adds, joins := 5, 5
	for i := range calls {
		a, b := things[r.IntN(len(things))], things[r.IntN(len(things))]
		switch kind := r.IntN(20); {
		case kind < adds:
			p.add(a)
		case kind < adds+joins:
			p.join(a, b)
		case kind < 19:
			p.drop(a)
		default:
			p.burst(a)
		}
		p.compare(things)
		if i%50 == 0 {
			adds, joins = 2+r.IntN(8), r.IntN(10)
		}
	}
}
