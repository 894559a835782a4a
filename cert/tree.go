package cert

import (
	"cmp"

	"bramble/api"
	"bramble/tree"
	"bramble/weight"
)

// noEdge: what stands where a walk has no last edge.
const noEdge = 0

// byVertex orders what is claimed of vertices.
func byVertex(a, b api.Dist) int { return cmp.Compare(a.V, b.V) }

// sameDistance: are both of one vertex, and is it as far? Which edge leads there is
// free.
func sameDistance(a, b api.Dist) bool {
	return a.V == b.V && a.Far == b.Far && a.Bits == b.Bits
}

// onwardBy: of each vertex, the edges that begin there by which claimed walks come to
// their last vertex; false, if one has an edge that can't be the last of a walk to it.
func onwardBy(claimed []api.Dist, es []api.Edge, source int) (map[int][]api.Edge, bool) {
	edges := map[int]api.Edge{}
	for _, x := range es {
		edges[x.E] = x
	}
	onward := map[int][]api.Edge{}
	for _, d := range claimed {
		if d.Far || d.V == source {
			if d.Edge != noEdge {
				return nil, false
			}
			continue
		}
		x, there := edges[d.Edge]
		if !there || x.V != d.V {
			return nil, false
		}
		onward[x.U] = append(onward[x.U], x)
	}
	return onward, true
}

// stop: a vertex to which a walk came, with its cost.
type stop struct {
	at   int
	cost float32
}

// leadsToAll: do the walks along these edges come from the source to each vertex that
// is reached, at the cost of its distance? One edge enters each such vertex but the
// source, which none enters: so no walk comes to a vertex twice, and edges that hold
// one another up in a ring aren't come by.
func leadsToAll(right *tree.Tree, onward map[int][]api.Edge) bool {
	met := 0
	waiting := []stop{{at: right.Source(), cost: weight.Fold(nil)}}
	for len(waiting) > 0 {
		last := len(waiting) - 1
		here := waiting[last]
		waiting = waiting[:last]
		if bits, _ := right.Dist(here.at); weight.Bits(here.cost) != bits {
			return false
		}
		met++
		for _, x := range onward[here.at] {
			w, _ := weight.Admit(x.Bits)
			waiting = append(waiting, stop{at: x.V, cost: weight.Add(here.cost, w)})
		}
	}
	return met == len(right.Reached())
}
