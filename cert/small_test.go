package cert_test

import (
	"math"
	"slices"
	"testing"

	"bramble/api"
)

// pairsOf: each pair of vertices, those of a vertex with itself only if they are asked for.
func pairsOf(vs []int, loops bool) []api.Arc {
	var pairs []api.Arc
	for _, u := range vs {
		for _, v := range vs {
			if u != v || loops {
				pairs = append(pairs, api.Arc{U: u, V: v})
			}
		}
	}
	return pairs
}

// eachGraph makes each graph of these vertices in which a pair has one of these bits for its edge, or none.
func eachGraph(vs []int, loops bool, kinds []uint32, do func(k *truth)) {
	pairs := pairsOf(vs, loops)
	var grow func(es []api.Edge, pair int)
	grow = func(es []api.Edge, pair int) {
		if pair == len(pairs) {
			do(know(plain{vs, es}))
			return
		}
		grow(es, pair+1)
		for _, bits := range kinds {
			grow(append(slices.Clone(es), edge(1+pair, pairs[pair].U, pairs[pair].V, bits)), pair+1)
		}
	}
	grow(nil, 0)
}

// eachList makes each list of at most so many of these things, each as often as one likes.
func eachList[T any](things []T, most int, do func(list []T)) {
	var grow func(list []T)
	grow = func(list []T) {
		do(list)
		if len(list) == most {
			return
		}
		for _, x := range things {
			grow(append(slices.Clone(list), x))
		}
	}
	grow(nil)
}

// listsOf: each list of at most so many of these things.
func listsOf[T any](things []T, most int) [][]T {
	var lists [][]T
	eachList(things, most, func(list []T) { lists = append(lists, list) })
	return lists
}

// eachChoice makes each list that has at each place one of the things that may stand there.
func eachChoice[T any](places [][]T, do func(list []T)) {
	list := make([]T, len(places))
	var choose func(at int)
	choose = func(at int) {
		if at == len(places) {
			do(list)
			return
		}
		for _, x := range places[at] {
			list[at] = x
			choose(at + 1)
		}
	}
	choose(0)
}

// both: among what was tried both answers came.
type both struct{ yes, no int }

func (b *both) count(answer bool) {
	if answer {
		b.yes++
	} else {
		b.no++
	}
}

func (b *both) look(t *testing.T, yes int) {
	t.Helper()
	if b.yes < yes || b.no < yes {
		t.Errorf("%d claims are right and %d aren't: too few of one kind for a test", b.yes, b.no)
	}
}

// Each list of at most three lists of at most three numbers, one of them no vertex, of each graph of two vertices.
func TestEveryPartsOfTwo(t *testing.T) {
	var seen both
	lists := listsOf([]int{9, -4, 5}, 3)
	eachGraph([]int{9, -4}, true, []uint32{one}, func(k *truth) {
		eachList(lists, 2, func(comps [][]int) { seen.count(k.tryParts(t, comps)) })
	})
	short := listsOf([]int{9, -4, 5}, 2)
	eachGraph([]int{9, -4}, false, []uint32{one}, func(k *truth) {
		eachList(short, 4, func(comps [][]int) { seen.count(k.tryParts(t, comps)) })
	})
	seen.look(t, 20)
}

// Each list of at most three lists of at most three vertices, of each graph of three vertices.
func TestEveryPartsOfThree(t *testing.T) {
	var seen both
	vs := []int{9, -4, 0}
	lists := listsOf(vs, 3)
	eachGraph(vs, true, []uint32{one}, func(k *truth) {
		eachList(lists, 2, func(comps [][]int) { seen.count(k.tryParts(t, comps)) })
	})
	// Of the graphs with these arcs each way in which three vertices may fall into components is there.
	for _, es := range [][]api.Edge{nil, lines(9, 0, 0, 9), lines(9, -4, -4, 9), lines(0, -4, -4, 0), lines(9, 0, 0, -4, -4, 9)} {
		k := know(plain{vs, es})
		eachList(lists, 3, func(comps [][]int) { seen.count(k.tryParts(t, comps)) })
	}
	seen.look(t, 200)
}

// ways: each way in which these things may fall into parts.
func ways(things []int) [][][]int {
	if len(things) == 0 {
		return [][][]int{nil}
	}
	var all [][][]int
	last := things[len(things)-1]
	for _, parts := range ways(things[:len(things)-1]) {
		all = append(all, append(slices.Clone(parts), []int{last}))
		for i := range parts {
			other := slices.Clone(parts)
			other[i] = append([]int{last}, parts[i]...)
			all = append(all, other)
		}
	}
	return all
}

// Each way in which four vertices may fall into parts, of each graph of four vertices without edges from one to itself.
func TestEveryPartsOfFour(t *testing.T) {
	vs := []int{9, -4, 0, 2}
	all := ways(vs)
	if len(all) != 15 {
		t.Fatalf("%d ways", len(all))
	}
	eachGraph(vs, false, []uint32{one}, func(k *truth) {
		right := 0
		for _, comps := range all {
			if k.tryParts(t, comps) {
				right++
			}
		}
		if right != 1 {
			t.Fatalf("P15.1: of %v %d ways are accepted", k.g, right)
		}
	})
}

// spansOf: each run with these ends, those without numbers too.
func spansOf(ends []int) []api.Span {
	var spans []api.Span
	for _, lo := range ends {
		for _, hi := range ends {
			spans = append(spans, api.Span{Lo: lo, Hi: hi})
		}
	}
	return spans
}

// labelsFor: each label of this vertex with one of these posts and one of these lists of runs.
func labelsFor(v int, posts []int, runs [][]api.Span) []api.Label {
	var labels []api.Label
	for _, post := range posts {
		for _, list := range runs {
			labels = append(labels, api.Label{V: v, Post: post, Runs: list})
		}
	}
	return labels
}

// Each two labels with at most two runs, in each order, of each graph of two vertices without edges from one to itself; with
// the ends of int among the numbers, and with three neighbours.
func TestEveryLabelsOfTwo(t *testing.T) {
	for _, numbers := range [][]int{{math.MinInt, 3, math.MaxInt}, {4, 5, 6}} {
		var seen both
		runs := listsOf(spansOf(numbers), 2)
		first, second := labelsFor(7, numbers, runs), labelsFor(-2, numbers, runs)
		eachGraph([]int{7, -2}, false, []uint32{one}, func(k *truth) {
			eachChoice([][]api.Label{first, second}, func(ls []api.Label) {
				seen.count(k.tryLabels(t, ls))
			})
		})
		short := listsOf(spansOf(numbers), 1)
		eachGraph([]int{7, -2}, true, []uint32{one}, func(k *truth) {
			eachChoice([][]api.Label{labelsFor(-2, numbers, short), labelsFor(7, numbers, short)}, func(ls []api.Label) {
				seen.count(k.tryLabels(t, ls))
			})
		})
		seen.look(t, 1000)
	}
}

// Each label of one vertex, with at most three runs.
func TestEveryLabelOfOne(t *testing.T) {
	var seen both
	numbers := []int{math.MinInt, -1, math.MaxInt}
	all := labelsFor(3, numbers, listsOf(spansOf(numbers), 3))
	eachGraph([]int{3}, true, []uint32{one}, func(k *truth) {
		for _, l := range all {
			seen.count(k.tryLabels(t, []api.Label{l}))
		}
	})
	seen.look(t, 500)
}

// Each three labels with posts out of three and runs that hold any of these, of each graph of three vertices without edges from
// one to itself.
func TestEveryLabelsOfThree(t *testing.T) {
	var seen both
	numbers := []int{5, 6, 8}
	runs := [][]api.Span{{}, {{Lo: 5, Hi: 5}}, {{Lo: 6, Hi: 7}}, {{Lo: 7, Hi: 9}}, {{Lo: 4, Hi: 6}}, {{Lo: 6, Hi: 8}}, {{Lo: 8, Hi: 8}, {Lo: 5, Hi: 5}}, {{Lo: 5, Hi: 7}, {Lo: 6, Hi: 8}}}
	vs := []int{1, -1, 0}
	places := [][]api.Label{labelsFor(-1, numbers, runs), labelsFor(1, numbers, runs), labelsFor(0, numbers, runs)}
	eachGraph(vs, false, []uint32{one}, func(k *truth) {
		right := 0
		eachChoice(places, func(ls []api.Label) {
			answer := k.tryLabels(t, ls)
			seen.count(answer)
			if answer {
				right++
			}
		})
		if right == 0 {
			t.Fatalf("no claim of %v is right", k.g)
		}
	})
	seen.look(t, 300)
}

// Each list of at most three labels that would all be right, of any vertices and of what is none.
func TestEveryListOfLabels(t *testing.T) {
	var seen both
	for _, g := range []plain{{}, {vs: []int{1}}, {vs: []int{1, 2}, es: lines(1, 2, 2, 1)}, {vs: []int{1, 2, 3}, es: lines(1, 2, 2, 3, 3, 1)}} {
		k := know(g)
		eachList([]int{1, 2, 3, 4}, 4, func(vs []int) {
			var ls []api.Label
			for _, v := range vs {
				ls = append(ls, label(v, 7, 7, 7))
			}
			seen.count(k.tryLabels(t, ls))
		})
	}
	seen.look(t, 10)
}

// distsFor: each Dist of this vertex with one of these bits and one of these edges.
func distsFor(v int, bits []uint32, edges []int) []api.Dist {
	var dists []api.Dist
	for _, b := range bits {
		for _, e := range edges {
			dists = append(dists, dist(v, b, e), api.Dist{V: v, Far: true, Bits: b, Edge: e})
		}
	}
	return dists
}

// Each two Dists from each source, one of them no vertex, of each graph of two vertices.
func TestEveryTreeOfTwo(t *testing.T) {
	var seen both
	vs := []int{9, -4}
	bits := []uint32{0, one, minus0}
	edges := []int{0, 1, 2, 3, 4, 5, -1}
	places := [][]api.Dist{distsFor(-4, bits, edges), distsFor(9, bits, edges)}
	eachGraph(vs, true, []uint32{0, one}, func(k *truth) {
		for _, s := range []int{9, -4, 1} {
			eachChoice(places, func(ds []api.Dist) {
				seen.count(k.tryTree(t, api.Tree{Source: s, Dists: ds}))
			})
		}
	})
	seen.look(t, 150)
}

// Each Dist of one vertex, from it and from what is none.
func TestEveryTreeOfOne(t *testing.T) {
	var seen both
	all := distsFor(3, []uint32{0, minus0, least, one, greatest, plusInf, 0x7fc00000}, []int{0, 1, 2, -1, math.MaxInt, math.MinInt})
	eachGraph([]int{3}, true, []uint32{0, minus0, least, one, greatest}, func(k *truth) {
		for _, s := range []int{3, 0, 1} {
			for _, d := range all {
				seen.count(k.tryTree(t, api.Tree{Source: s, Dists: []api.Dist{d}}))
			}
		}
	})
	seen.look(t, 6)
}

// rightDists: of each vertex, the right Dist with each of these edges.
func (k *truth) rightDists(s int, edges []int) [][]api.Dist {
	var places [][]api.Dist
	for _, v := range k.g.vs {
		cost, led := k.costsFrom(s)[v]
		var list []api.Dist
		for _, e := range edges {
			list = append(list, api.Dist{V: v, Far: !led, Bits: cost, Edge: e})
		}
		places = append(places, list)
	}
	return places
}

// Each choice of edges beside right distances, of each graph of three vertices; from each of them.
func TestEveryChoiceOfEdges(t *testing.T) {
	vs := []int{9, -4, 0}
	for _, c := range []struct {
		loops bool
		kinds []uint32
	}{{false, []uint32{0, one}}, {true, []uint32{0}}} {
		var seen both
		edges := []int{0}
		for i := range pairsOf(vs, c.loops) {
			edges = append(edges, 1+i)
		}
		eachGraph(vs, c.loops, c.kinds, func(k *truth) {
			right := 0
			eachChoice(k.rightDists(vs[1], edges), func(ds []api.Dist) {
				answer := k.tryTree(t, api.Tree{Source: vs[1], Dists: ds})
				seen.count(answer)
				if answer {
					right++
				}
			})
			if right == 0 {
				t.Fatalf("no tree of %v is right", k.g)
			}
		})
		seen.look(t, 500)
	}
}

// Likewise where sums are rounded and overflow, and with edges that are swallowed from a vertex to itself.
func TestEveryChoiceOfRoundedEdges(t *testing.T) {
	for _, dear := range []uint32{many, greatest} {
		var seen both
		eachGraph([]int{1, 2, 3}, false, []uint32{one, dear}, func(k *truth) {
			eachChoice(k.rightDists(1, []int{0, 1, 2, 4, 6}), func(ds []api.Dist) {
				seen.count(k.tryTree(t, api.Tree{Source: 1, Dists: ds}))
			})
			k = know(plain{k.g.vs, append(slices.Clone(k.g.es), edge(7, 2, 2, one), edge(8, 3, 3, one))})
			eachChoice(k.entering(1), func(ds []api.Dist) {
				seen.count(k.tryTree(t, api.Tree{Source: 1, Dists: ds}))
			})
		})
		seen.look(t, 500)
	}
}

// entering: of each vertex, the right Dist with each edge that enters it, and with none.
func (k *truth) entering(s int) [][]api.Dist {
	var places [][]api.Dist
	for _, list := range k.rightDists(s, []int{0}) {
		d := list[0]
		for _, x := range k.g.es {
			if x.V == d.V && d.V != s {
				d.Edge = x.E
				list = append(list, d)
			}
		}
		places = append(places, list)
	}
	return places
}

// Each choice of edges that enter their vertices, of each graph of four vertices without edges from one to itself, all of
// weight 0: rings of all kinds hold themselves up.
func TestEveryRingOfFour(t *testing.T) {
	var seen both
	vs := []int{9, -4, 0, 2}
	eachGraph(vs, false, []uint32{0}, func(k *truth) {
		eachChoice(k.entering(9), func(ds []api.Dist) {
			seen.count(k.tryTree(t, api.Tree{Source: 9, Dists: ds}))
		})
	})
	seen.look(t, 1000)
}

// Each list of at most three Dists that would all be right, of any vertices and of what is none, from each source.
func TestEveryListOfDists(t *testing.T) {
	var seen both
	for n := range 4 {
		g := plain{vs: []int{1, 2, 3}[:n]}
		for v := 2; v <= n; v++ {
			g.es = append(g.es, edge(v, 1, v, 0), edge(v+10, 2, v, 0))
		}
		k := know(g)
		eachList([]int{1, 2, 3, 4}, 4, func(vs []int) {
			for s := range 5 {
				var ds []api.Dist
				for _, v := range vs {
					d := dist(v, 0, v)
					if v == s {
						d.Edge = 0
					}
					ds = append(ds, d)
				}
				seen.count(k.tryTree(t, api.Tree{Source: s, Dists: ds}))
			}
		})
	}
	seen.look(t, 9)
}
