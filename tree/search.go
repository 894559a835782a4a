package tree

import (
	"bramble/api"
	"bramble/heap"
	"bramble/weight"
)

// bare: the tree from s of a graph without edges; its vertices rise.
func bare(vertices []int, s int) *Tree {
	t := &Tree{source: s, from: make([]int, len(vertices))}
	for _, v := range vertices {
		t.dists = append(t.dists, api.Dist{V: v, Far: v != s})
	}
	return t
}

// grow makes a bare tree that of the graph with these ways. Places are settled by
// their costs: a sum never falls below what is added to, and sums keep the order of
// what is added to, so no walk by a place that is settled later can be cheaper.
func (t *Tree) grow(ways [][]way) {
	start, _ := t.place(t.source)
	open := heap.New[int](weight.Before)
	open.Push(start, weight.Fold(nil))
	for at, cost, ok := open.Pop(); ok; at, cost, ok = open.Pop() {
		for _, w := range ways[at] {
			if sum := weight.Add(cost, w.weight); t.offer(open, w.to, sum) {
				t.lead(at, w, sum)
			}
		}
	}
}

// offer lets a place wait with this cost, and tells true, if a walk of that cost is
// the first one to it, or cheaper than those of before. A first one may cost +Inf, so
// it isn't told by its cost; a place that is settled waits no more, and stays so.
func (t *Tree) offer(open *heap.Heap[int, float32], place int, cost float32) bool {
	if t.dists[place].Far {
		return open.Push(place, cost)
	}
	return open.Lower(place, cost)
}

// lead lets the path to a way's end go by that way.
func (t *Tree) lead(at int, w way, cost float32) {
	d := &t.dists[w.to]
	d.Far, d.Bits, d.Edge = false, weight.Bits(cost), w.edge
	t.from[w.to] = at
}
