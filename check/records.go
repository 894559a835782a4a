package check

import "bramble/api"

// records: a graph's edges, of which each is asked for but once, however often a walk
// goes by it.
type records struct {
	graph Graph
	known map[int]api.Edge
}

func newRecords(g Graph) records {
	return records{g, map[int]api.Edge{}}
}

// Edge: the record. An error isn't kept, since no walk goes on behind it.
func (r records) Edge(e int) (api.Edge, api.Errno) {
	if x, ok := r.known[e]; ok {
		return x, api.OK
	}
	x, errno := r.graph.Edge(e)
	if errno == api.OK {
		r.known[e] = x
	}
	return x, errno
}
