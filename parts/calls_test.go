package parts_test

import (
	"math"
	"slices"
	"testing"
)

func TestCallsOfManySizes(t *testing.T) {
	for _, n := range []int{1, 2, 3, 4, 5, 8, 13} {
		var things []int
		for i := range n {
			things = append(things, (i*7)%n-n/2)
		}
		runCalls(t, things, 3000)
	}
}

func TestCallsOfManyThings(t *testing.T) {
	var things []int
	for i := range 60 {
		things = append(things, (i*i*37)%1009)
	}
	runCalls(t, things, 1000)
}

type name string

type number int16

type cost float32

// Each kind that < orders, with the least and the greatest of it.
func TestCallsOfManyTypes(t *testing.T) {
	const calls = 1500
	t.Run("int", func(t *testing.T) {
		runCalls(t, []int{math.MinInt, math.MinInt + 1, -1, 0, 1, math.MaxInt - 1, math.MaxInt}, calls)
	})
	t.Run("int8", func(t *testing.T) { runCalls(t, []int8{-128, -127, -1, 0, 1, 126, 127}, calls) })
	t.Run("int16", func(t *testing.T) { runCalls(t, []int16{math.MinInt16, -1, 0, 255, 256, math.MaxInt16}, calls) })
	t.Run("int32", func(t *testing.T) {
		runCalls(t, []int32{math.MinInt32, math.MinInt32 + 1, -1, 0, 1, math.MaxInt32}, calls)
	})
	t.Run("int64", func(t *testing.T) {
		runCalls(t, []int64{math.MinInt64, -1 << 32, -1, 0, 1, 1 << 32, 1<<53 + 1, 1 << 53, math.MaxInt64}, calls)
	})
	t.Run("uint", func(t *testing.T) { runCalls(t, []uint{0, 1, math.MaxInt, math.MaxInt + 1, math.MaxUint}, calls) })
	t.Run("uint8", func(t *testing.T) { runCalls(t, []uint8{0, 1, 127, 128, 254, 255}, calls) })
	t.Run("uint16", func(t *testing.T) { runCalls(t, []uint16{0, 1, math.MaxInt16, 1 << 15, math.MaxUint16}, calls) })
	t.Run("uint32", func(t *testing.T) { runCalls(t, []uint32{0, 1, math.MaxInt32, 1 << 31, math.MaxUint32}, calls) })
	t.Run("uint64", func(t *testing.T) {
		runCalls(t, []uint64{0, 1, math.MaxInt64, 1 << 63, 1<<63 + 1, math.MaxUint64}, calls)
	})
	t.Run("uintptr", func(t *testing.T) { runCalls(t, []uintptr{0, 1, 1 << 63, math.MaxUint64}, calls) })
	t.Run("float32", func(t *testing.T) {
		inf := float32(math.Inf(1))
		runCalls(t, []float32{-inf, -math.MaxFloat32, -1, -math.SmallestNonzeroFloat32, 0,
			math.SmallestNonzeroFloat32, 16777215, 16777216, math.MaxFloat32, inf}, calls)
	})
	t.Run("float64", func(t *testing.T) {
		runCalls(t, []float64{math.Inf(-1), -math.MaxFloat64, -0.5, -math.SmallestNonzeroFloat64, 0,
			math.Copysign(0, -1), math.SmallestNonzeroFloat64, 1, 1 + 0x1p-52, math.MaxFloat64, math.Inf(1)}, calls)
	})
	t.Run("texts", func(t *testing.T) {
		runCalls(t, []string{"", "\x00", "\x00\x00", "A", "a", "a\x00", "aa", "b", "é", "\x80", "\xff", "\xff\xff",
			"long enough to stand elsewhere", "long enough to stand elsewhere!"}, calls)
	})
	t.Run("texts of one's own type", func(t *testing.T) { runCalls(t, []name{"", "a", "aa", "b", "B"}, calls) })
	t.Run("numbers of one's own type", func(t *testing.T) {
		runCalls(t, []number{math.MinInt16, -1, 0, 1, math.MaxInt16}, calls)
	})
	t.Run("floats of one's own type", func(t *testing.T) {
		runCalls(t, []cost{0, math.SmallestNonzeroFloat32, 0.5, 1, math.MaxFloat32, cost(math.Inf(1))}, calls)
	})
}

// Each list of four calls over three things, and all that can be told behind it.
// (Some calls change nothing, so shorter lists are among them.)
func TestEveryShortListOfCalls(t *testing.T) {
	things := []int{2, 1, 3}
	calls := everyCall(things)
	n := len(calls)
	for list := range n * n * n * n {
		p := newPair[int](t)
		for turn, rest := 0, list; turn < 4; turn, rest = turn+1, rest/n {
			p.do(calls[rest%n])
		}
		p.compare(things)
	}
}

// Each list of three calls over four things that are in, in each way in which these may fall into parts.
func TestEveryShortListFromEveryBeginning(t *testing.T) {
	things := []int{3, 1, 4, 2}
	calls := everyCall(things)
	n := len(calls)
	for _, labels := range partitions(len(things)) {
		for list := range n * n * n {
			p := newPair[int](t)
			p.build(things, labels)
			for turn, rest := 0, list; turn < 3; turn, rest = turn+1, rest/n {
				p.do(calls[rest%n])
			}
			p.compare(things)
		}
	}
}

// build adds the things and joins those that have the same label.
func (p *pair[K]) build(things []K, labels []int) {
	p.t.Helper()
	for i, k := range things {
		p.add(k)
		if first := slices.Index(labels, labels[i]); first < i {
			p.join(k, things[first])
		}
	}
}

// partitions: all ways in which n things may fall into parts, each as the things' labels.
func partitions(n int) [][]int {
	if n == 0 {
		return [][]int{nil}
	}
	var all [][]int
	for _, labels := range partitions(n - 1) {
		most := -1
		for _, l := range labels {
			most = max(most, l)
		}
		for l := range most + 2 {
			all = append(all, append(slices.Clone(labels), l))
		}
	}
	return all
}

// Each list of four joins of two of five things; then a part bursts, and all is joined again the other way round.
func TestEveryOrderOfJoins(t *testing.T) {
	things := []int{30, 10, 50, 20, 40}
	joins := slices.DeleteFunc(everyJoin(things), func(c call[int]) bool { return c.a >= c.b })
	n := len(joins)
	for list := range n * n * n * n {
		for _, burst := range things {
			p := newPair[int](t)
			p.build(things, []int{0, 1, 2, 3, 4})
			for turn, rest := 0, list; turn < 4; turn, rest = turn+1, rest/n {
				p.do(joins[rest%n])
			}
			p.compareLists(things)
			p.burst(burst)
			p.compareLists(things)
			for turn, rest := 0, list; turn < 4; turn, rest = turn+1, rest/n {
				p.join(joins[rest%n].b, joins[rest%n].a)
			}
			p.compareLists(things)
		}
	}
}

// compareLists: a shorter compare, for lists of which there are many.
func (p *pair[K]) compareLists(things []K) {
	p.t.Helper()
	if got, want := p.p.Heads(), p.m.heads(); !slices.Equal(got, want) {
		p.t.Fatalf("Heads: %v, not %v; there is: %v", got, want, p.m.parts)
	}
	for _, k := range things {
		if got, want := p.p.Members(k), p.m.members(k); !slices.Equal(got, want) {
			p.t.Fatalf("Members(%v): %v, not %v; there is: %v", k, got, want, p.m.parts)
		}
	}
}

// Two parts of all sizes, with all ways in which their things may stand among one another, joined by each of them.
func TestEveryWayOfTwoPartsAmongOneAnother(t *testing.T) {
	things := []int{0, 1, 2, 3, 4, 5, 6}
	for sides := range 1 << len(things) {
		var labels []int
		for i := range things {
			labels = append(labels, sides>>i&1)
		}
		for _, c := range everyJoin(things) {
			p := newPair[int](t)
			p.build(things, labels)
			p.do(c)
			p.compareLists(things)
		}
	}
}

// All orders in which the things of one part are dropped, and added again.
func TestEveryOrderOfDrops(t *testing.T) {
	things := []int{1, 2, 3, 4, 5}
	for _, order := range orders(things) {
		p := newPair[int](t)
		p.build(things, []int{0, 0, 0, 0, 0})
		for _, k := range order {
			p.drop(k)
			p.drop(k)
			p.compare(things)
		}
		for _, k := range order {
			p.add(k)
			p.add(k)
			p.join(k, order[0])
			p.compare(things)
		}
	}
}

// orders: all orders of the things.
func orders(things []int) [][]int {
	if len(things) == 0 {
		return [][]int{nil}
	}
	last := len(things) - 1
	var all [][]int
	for _, o := range orders(things[:last]) {
		for at := range len(things) {
			all = append(all, slices.Insert(slices.Clone(o), at, things[last]))
		}
	}
	return all
}
