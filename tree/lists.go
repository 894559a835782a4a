package tree

import (
	"slices"

	"bramble/api"
	"bramble/weight"
)

const (
	leastEdge = 1
	noEdge    = 0 // a path without edges has no last one
)

// fault: what is wrong with these lists, of which the vertices rise. Each error is
// looked for in all of them ahead of the next one.
func fault(vertices []int, es []api.Edge, s int) api.Errno {
	none := func(v int) bool { return !among(vertices, v) }
	switch {
	case repeats(vertices) || repeats(numbers(es)):
		return api.ErrTwice
	case slices.ContainsFunc(es, func(x api.Edge) bool { return x.E < leastEdge }):
		return api.ErrRange
	case none(s) || slices.ContainsFunc(es, func(x api.Edge) bool { return none(x.U) || none(x.V) }):
		return api.ErrNoVertex
	case slices.ContainsFunc(es, refused):
		return api.ErrBadWeight
	}
	return api.OK
}

// risen: the same numbers in a list of their own, none below the one ahead of it.
func risen(list []int) []int {
	list = slices.Clone(list)
	slices.Sort(list)
	return list
}

// numbers: those of the edges, none below the one ahead of it.
func numbers(es []api.Edge) []int {
	var list []int
	for _, x := range es {
		list = append(list, x.E)
	}
	return risen(list)
}

// repeats: does a number stand twice in a list in which equal ones are neighbours?
func repeats(list []int) bool {
	for i := 1; i < len(list); i++ {
		if list[i] == list[i-1] {
			return true
		}
	}
	return false
}

// among: does v stand in a list that rises?
func among(list []int, v int) bool {
	_, found := slices.BinarySearch(list, v)
	return found
}

// refused: has the edge bits that are no weight's?
func refused(x api.Edge) bool {
	_, errno := weight.Admit(x.Bits)
	return errno != api.OK
}

// way: an edge that is there to be gone along, from a place that is known.
type way struct {
	edge   int
	to     int // the place where it ends
	weight float32
}

// waysOf: of each place, the edges that begin there. The lists are without fault.
func waysOf(vertices []int, es []api.Edge) [][]way {
	ways := make([][]way, len(vertices))
	for _, x := range es {
		from, _ := slices.BinarySearch(vertices, x.U)
		to, _ := slices.BinarySearch(vertices, x.V)
		w, _ := weight.Admit(x.Bits)
		ways[from] = append(ways[from], way{edge: x.E, to: to, weight: w})
	}
	return ways
}
