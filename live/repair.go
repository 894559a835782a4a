package live

import (
	"bramble/heap"
	"bramble/weight"
)

// approach repairs the tree behind an edge that is new or got no dearer, and tells
// how many vertices came nearer.
func (t *Live) approach(e int) int {
	open := heap.New[int](weight.Before)
	t.offer(open, e)
	return t.spread(open)
}

// recede repairs the tree behind an edge that got dearer, and tells of how many
// vertices the distance was worked out anew. Where rounding swallows the difference,
// the path that ends with it is as cheap as before.
func (t *Live) recede(e int) int {
	x := t.edges[e]
	from, to := t.vertices[x.from], t.vertices[x.to]
	if to.last != e || !weight.Before(to.cost, weight.Add(from.cost, x.weight)) {
		return 0
	}
	return t.mend(x.to)
}

// mend finds new paths for v, whose last edge is gone or dearer, and for all whose
// paths go by it, and tells how many these are. All of them are forgotten ahead of the
// search: else a ring of weight 0 would hold itself up.
func (t *Live) mend(v int) int {
	lost := t.below(v)
	for _, at := range lost {
		t.forget(at)
	}
	open := heap.New[int](weight.Before)
	for _, e := range t.entries(lost) {
		t.offer(open, e)
	}
	t.spread(open)
	return len(lost)
}

// below: v, and all vertices whose paths go by it. No path goes by its own end, so
// none is met twice.
func (t *Live) below(v int) []int {
	all := []int{v}
	for i := 0; i < len(all); i++ {
		for _, e := range t.vertices[all[i]].out {
			if to := t.edges[e].to; t.vertices[to].last == e {
				all = append(all, to)
			}
		}
	}
	return all
}

// forget: no walk to v is known.
func (t *Live) forget(v int) {
	at := t.vertices[v]
	at.found, at.cost, at.last = false, 0, noEdge
}

// entries: the edges by which one comes to these vertices, of which no walk is known,
// from others of which one is.
func (t *Live) entries(lost []int) []int {
	var entries []int
	for _, v := range lost {
		for _, e := range t.vertices[v].in {
			if t.vertices[t.edges[e].from].found {
				entries = append(entries, e)
			}
		}
	}
	return entries
}

// offer lets the path to an edge's end go by that edge, if it is the first one, or is
// cheaper so. One that is as cheap as before stays: so no vertex waits again that was
// gone on from, and no path turns back to where it came by.
func (t *Live) offer(open *heap.Heap[int, float32], e int) {
	x := t.edges[e]
	from, to := t.vertices[x.from], t.vertices[x.to]
	if !from.found {
		return
	}
	sum := weight.Add(from.cost, x.weight)
	if to.found && !weight.Before(sum, to.cost) {
		return
	}
	to.found, to.cost, to.last = true, sum, e
	if !open.Push(x.to, sum) {
		open.Lower(x.to, sum)
	}
}

// spread goes on from the vertices that wait, the nearest first, and tells how many
// there were. A sum never falls below what is added to, and sums keep the order of
// what is added to: so none that was gone on from can come nearer.
func (t *Live) spread(open *heap.Heap[int, float32]) int {
	settled := 0
	for v, _, ok := open.Pop(); ok; v, _, ok = open.Pop() {
		settled++
		for _, e := range t.vertices[v].out {
			t.offer(open, e)
		}
	}
	return settled
}
