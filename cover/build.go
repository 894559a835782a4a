package cover

import (
	"slices"

	"bramble/api"
	"bramble/spans"
)

// plant makes the forest of n nodes.
func (c *Cover) plant(n int, arcs []api.Arc) {
	c.parents = slices.Repeat([]int{-1}, n)
	for _, arc := range arcs {
		if least := c.parents[arc.V]; least < 0 || arc.U < least {
			c.parents[arc.V] = arc.U
		}
	}
	var roots []int
	below := make([][]int, n)
	for v, parent := range c.parents {
		if parent < 0 {
			roots = append(roots, v)
		} else {
			below[parent] = append(below[parent], v)
		}
	}
	c.posts, c.lows = make([]int, n), make([]int, n)
	c.number(roots, below)
}

// number gives these nodes their posts and lows, each behind all below it.
func (c *Cover) number(siblings []int, below [][]int) {
	for _, v := range siblings {
		// The next post goes to the first of those below v, or to v.
		c.lows[v] = len(c.nodes) + 1
		c.number(below[v], below)
		c.nodes = append(c.nodes, v)
		c.posts[v] = len(c.nodes)
	}
}

// write makes the labels; each arc leads onward in the order.
func (c *Cover) write(order []int, arcs []api.Arc) {
	onward := make([][]int, len(order))
	for _, arc := range arcs {
		onward[arc.U] = append(onward[arc.U], arc.V)
	}
	c.labels = make([]*spans.Set[int32], len(order))
	for _, u := range slices.Backward(order) {
		own := int32(c.posts[u])
		label := spans.New[int32]()
		label.Add(own, own)
		for _, v := range onward[u] {
			// Labels come in whole, so with v's post all of v's label is in.
			if !label.Has(int32(c.posts[v])) {
				label.Join(c.labels[v])
			}
		}
		c.labels[u] = label
	}
}
