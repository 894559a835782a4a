package cert

import (
	"cmp"
	"slices"
	"sort"

	"bramble/api"
	"bramble/spans"
)

// claims: labels, one of each vertex of a graph. A vertex is spoken of by the place of
// its label here. They stand by their Posts, so a run of Posts is a run of places; by
// Posts themselves one couldn't tell vertices apart that have the same one.
type claims struct {
	labels []api.Label
	// Of each vertex.
	places map[int]int
}

// claimsOf: these labels, of which no two are of one vertex.
func claimsOf(ls []api.Label) claims {
	c := claims{labels: slices.SortedFunc(slices.Values(ls), byPost), places: map[int]int{}}
	for place, l := range c.labels {
		c.places[l.V] = place
	}
	return c
}

// byPost orders labels; those with one Post by their vertices, so that a component
// whose vertices have one is a run of places, rising as its vertices do.
func byPost(a, b api.Label) int {
	return cmp.Or(cmp.Compare(a.Post, b.Post), cmp.Compare(a.V, b.V))
}

// labelled: the vertices of these labels.
func labelled(ls []api.Label) []int {
	var list []int
	for _, l := range ls {
		list = append(list, l.V)
	}
	return list
}

// fromTheEnd: the components, each behind all to which arcs lead from it. The order is
// that of their heads in which they lead to one another.
func fromTheEnd(order []int, comps [][]int) [][]int {
	byHead := map[int][]int{}
	for _, comp := range comps {
		byHead[comp[0]] = comp
	}
	var list [][]int
	for _, head := range slices.Backward(order) {
		list = append(list, byHead[head])
	}
	return list
}

// hold: do the labels say who reaches whom along these arcs? Each component stands
// behind all to which arcs lead from it, so what these reach is known, and no longer
// than their labels, when it is needed.
func (c claims) hold(comps [][]int, arcs []api.Arc) bool {
	onward := c.onward(arcs)
	reached := make([]*spans.Set[int], len(c.labels))
	for _, comp := range comps {
		own := c.placesOf(comp)
		all := allReached(own, onward, reached)
		for _, place := range own {
			if !c.told(place).Same(all) {
				return false
			}
			reached[place] = all
		}
	}
	return true
}

// onward: of each place, the places to which arcs lead from there.
func (c claims) onward(arcs []api.Arc) [][]int {
	list := make([][]int, len(c.labels))
	for _, arc := range arcs {
		from := c.places[arc.U]
		list[from] = append(list[from], c.places[arc.V])
	}
	return list
}

// placesOf: of these vertices.
func (c claims) placesOf(vertices []int) []int {
	var list []int
	for _, v := range vertices {
		list = append(list, c.places[v])
	}
	return list
}

// told: the places of all vertices that the label at this place says are reached.
func (c claims) told(place int) *spans.Set[int] {
	told := spans.New[int]()
	for _, run := range c.labels[place].Runs {
		first := sort.Search(len(c.labels), func(i int) bool { return c.labels[i].Post >= run.Lo })
		behind := sort.Search(len(c.labels), func(i int) bool { return c.labels[i].Post > run.Hi })
		// Of a run without numbers the last place is below the first one too.
		told.Add(first, behind-1)
	}
	return told
}

// allReached: the places of all that the component at these places reaches, where it
// is known what those reach to which arcs lead from it.
func allReached(own []int, onward [][]int, reached []*spans.Set[int]) *spans.Set[int] {
	all := spans.New[int]()
	for _, place := range own {
		all.Add(place, place)
	}
	for _, from := range own {
		for _, to := range onward[from] {
			// What is reached comes in whole, so with a place all that it reaches is in.
			if !all.Has(to) {
				all.Join(reached[to])
			}
		}
	}
	return all
}
