package reach

import (
	"slices"

	"bramble/api"
	"bramble/cover"
	"bramble/scc"
	"bramble/spans"
)

// label: what is known of a component. One cover has no room for more than
// MaxVertices of them. So the components stand in a line, each behind all that lead to
// it, and each piece of the line has a cover: what a component reaches is in its own
// cover or in later ones.
type label struct {
	cover *cover.Cover
	// In the cover.
	node int
	// Where the piece begins: its numbers are the cover's, each raised by this.
	begin int
	// The numbers of all that it reaches in later pieces.
	beyond *spans.Set[int32]
}

// post: the component's number.
func (l label) post() int { return l.begin + l.cover.Post(l.node) }

// reaches: does a walk lead from the one component to the other?
func (l label) reaches(other label) bool {
	if l.cover == other.cover {
		return l.cover.Reaches(l.node, other.node)
	}
	return l.beyond.Has(int32(other.post()))
}

// reached: the numbers of all that the component reaches.
func (l label) reached() *spans.Set[int32] {
	all := l.beyond.Clone()
	for _, run := range l.cover.Label(l.node) {
		all.Add(int32(l.begin+run.Lo), int32(l.begin+run.Hi))
	}
	return all
}

// takeBeyond: an arc leads to the other component, whose own label is done.
func (l label) takeBeyond(other label) {
	if l.cover == other.cover {
		l.beyond.Join(other.beyond)
		return
	}
	// What is reached comes in whole, so with its number all that it reaches is in.
	if !l.beyond.Has(int32(other.post())) {
		l.beyond.Join(other.reached())
	}
}

// labelsOf: by the heads of the components; the arcs lead from one head to another,
// and no walk along them comes back.
func labelsOf(heads []int, arcs []api.Arc) map[int]label {
	line, _ := scc.Order(heads, arcs)
	onward := alongLine(line, arcs)
	var labels []label
	for piece := range slices.Chunk(onward, api.MaxVertices) {
		labels = append(labels, labelPiece(len(labels), piece)...)
	}
	byHead := map[int]label{}
	for u, l := range slices.Backward(labels) {
		for _, v := range onward[u] {
			l.takeBeyond(labels[v])
		}
		byHead[line[u]] = l
	}
	return byHead
}

// alongLine: of each place in the line, the places to which arcs lead from there.
func alongLine(line []int, arcs []api.Arc) [][]int {
	place := map[int]int{}
	for i, head := range line {
		place[head] = i
	}
	onward := make([][]int, len(line))
	for _, arc := range arcs {
		u := place[arc.U]
		onward[u] = append(onward[u], place[arc.V])
	}
	return onward
}

// labelPiece: the labels of the piece of the line that begins at this place, with
// nothing beyond it yet.
func labelPiece(begin int, onward [][]int) []label {
	var within []api.Arc
	for u, places := range onward {
		for _, v := range places {
			if v < begin+len(onward) {
				within = append(within, api.Arc{U: u, V: v - begin})
			}
		}
	}
	c, _ := cover.Build(len(onward), within)
	labels := make([]label, len(onward))
	for u := range labels {
		labels[u] = label{cover: c, node: u, begin: begin, beyond: spans.New[int32]()}
	}
	return labels
}
