package witness_test

import (
	"math"
	"slices"
	"testing"

	"bramble/api"
)

// example: of the chapter.
func example() api.Witness {
	return api.Witness{From: 5, To: 300, Bits: 0x3f800000, Edges: []int{1, 200}}
}

func TestExamples(t *testing.T) {
	b := []byte{183, 5, 172, 2, 0, 0, 128, 63, 2, 1, 200, 1}
	wantWitness(t, example(), b)
	wantNone(t, "without the last byte", b[:len(b)-1])
	wantNone(t, "with one more", append(slices.Clone(b), 0))
	wantNone(t, "with one more", append(slices.Clone(b), 1))
	wantNone(t, "133 0 for 5", []byte{183, 133, 0, 172, 2, 0, 0, 128, 63, 2, 1, 200, 1})
	wantError(t, api.Witness{From: 5, To: 300, Bits: 0x3f800000, Edges: []int{0, 200}}, api.ErrRange)
	wantError(t, api.Witness{From: 5, To: 300, Bits: 0x3f800000, Edges: []int{1, 0}}, api.ErrRange)
	wantError(t, api.Witness{From: 5, To: 300, Bits: 0x3f800000, Edges: []int{1025, 200}}, api.ErrRange)
	wantError(t, api.Witness{From: 5, To: 300, Bits: 0x3f800000, Edges: []int{1, 1025}}, api.ErrRange)
	wantNone(t, "an edge 0", []byte{183, 5, 172, 2, 0, 0, 128, 63, 2, 0, 200, 1})
	wantNone(t, "an edge 0", []byte{183, 5, 172, 2, 0, 0, 128, 63, 2, 1, 0})
	wantNone(t, "an edge 1025", []byte{183, 5, 172, 2, 0, 0, 128, 63, 2, 129, 8, 200, 1})
	wantNone(t, "an edge 1025", []byte{183, 5, 172, 2, 0, 0, 128, 63, 2, 1, 129, 8})
}

// The example of the whole: path 1 2.
func TestExampleOfTheWhole(t *testing.T) {
	wantWitness(t, api.Witness{From: 1, To: 2, Bits: 0x3f800000, Edges: []int{1}}, []byte{0xb7, 1, 2, 0, 0, 0x80, 0x3f, 1, 1})
}

func TestNumbersOfErrors(t *testing.T) {
	if api.ErrLong != 3 || api.ErrRange != 1 || api.ErrWitness != 160 {
		t.Errorf("ErrLong %d, ErrRange %d, ErrWitness %d", api.ErrLong, api.ErrRange, api.ErrWitness)
	}
	if api.MaxId != 1<<31-1 || api.MaxWalk != 1024 || api.MaxEdges != 1024 {
		t.Errorf("MaxId %d, MaxWalk %d, MaxEdges %d", api.MaxId, api.MaxWalk, api.MaxEdges)
	}
}

// vertices: written out, each number with its bytes.
func vertices() map[int][]byte {
	return map[int][]byte{
		0: {0}, 1: {1}, 126: {126}, 127: {127}, 128: {128, 1}, 129: {129, 1}, 255: {255, 1}, 256: {128, 2}, 300: {172, 2},
		16383: {255, 127}, 16384: {128, 128, 1}, 16385: {129, 128, 1}, 1<<21 - 1: {255, 255, 127}, 1 << 21: {128, 128, 128, 1},
		1<<28 - 1: {255, 255, 255, 127}, 1 << 28: {128, 128, 128, 128, 1}, 1<<30 + 5: {133, 128, 128, 128, 4},
		api.MaxId - 1: {254, 255, 255, 255, 7}, api.MaxId: {255, 255, 255, 255, 7},
	}
}

func TestVertices(t *testing.T) {
	for from, first := range vertices() {
		for to, second := range vertices() {
			wantWitness(t, api.Witness{From: from, To: to}, slices.Concat([]byte{183}, first, second, []byte{0, 0, 0, 0, 0}))
			wantWitness(t, api.Witness{From: from, To: to, Bits: 0x01020384, Edges: []int{1024}}, slices.Concat([]byte{183}, first, second, []byte{0x84, 3, 2, 1, 1, 128, 8}))
		}
	}
}

// noVertices: numbers that aren't from 0 to MaxId.
func noVertices() []int {
	return []int{-1, -2, -127, -128, -129, -api.MaxId - 1, -api.MaxId, -1 << 32, -1<<32 + 5, -1 << 53, math.MinInt, math.MinInt + 1, math.MinInt + 5,
		api.MaxId + 1, api.MaxId + 2, 1<<32 - 1, 1 << 32, 1<<32 + 5, 1 << 35, 1 << 53, math.MaxInt - 1, math.MaxInt}
}

func TestNoVertices(t *testing.T) {
	for _, v := range noVertices() {
		for _, list := range [][]int{nil, {}, {1}, {1, 200}, edges(1024)} {
			wantError(t, api.Witness{From: v, To: 5, Edges: list}, api.ErrRange)
			wantError(t, api.Witness{From: 5, To: v, Edges: list}, api.ErrRange)
			for _, other := range noVertices() {
				wantError(t, api.Witness{From: v, To: other, Edges: list}, api.ErrRange)
			}
		}
	}
}

func TestBits(t *testing.T) {
	for bits, four := range map[uint32][]byte{
		0: {0, 0, 0, 0}, 1: {1, 0, 0, 0}, 0xffffffff: {255, 255, 255, 255}, 0x3f800000: {0, 0, 128, 63}, 0x80000000: {0, 0, 0, 128}, 0x80: {128, 0, 0, 0},
		0x7f800000: {0, 0, 128, 127}, 0x7fc00000: {0, 0, 192, 127}, 0x7f800001: {1, 0, 128, 127}, 0xffc00001: {1, 0, 192, 255}, 0xff800000: {0, 0, 128, 255},
		0xb7b7b7b7: {183, 183, 183, 183}, 0x01020304: {4, 3, 2, 1}, 0xff00: {0, 255, 0, 0}, 0xff0000: {0, 0, 255, 0},
	} {
		wantWitness(t, api.Witness{From: 5, To: 300, Bits: bits, Edges: []int{1, 200}}, slices.Concat([]byte{183, 5, 172, 2}, four, []byte{2, 1, 200, 1}))
		wantWitness(t, api.Witness{Bits: bits}, slices.Concat([]byte{183, 0, 0}, four, []byte{0}))
	}
	for at := range 32 {
		tryEncode(t, api.Witness{Bits: 1 << at})
		tryEncode(t, api.Witness{Bits: ^uint32(1 << at), Edges: []int{183}})
	}
}

// lists: of n times the edge 1, by n, what the bytes say of how many there are.
func lists() map[int][]byte {
	return map[int][]byte{0: {0}, 1: {1}, 2: {2}, 126: {126}, 127: {127}, 128: {128, 1}, 129: {129, 1}, 255: {255, 1}, 256: {128, 2}, 1023: {255, 7}, 1024: {128, 8}}
}

func TestLists(t *testing.T) {
	for n, count := range lists() {
		wantWitness(t, api.Witness{From: 1, To: 2, Edges: slices.Repeat([]int{1}, n)}, slices.Concat([]byte{183, 1, 2, 0, 0, 0, 0}, count, slices.Repeat([]byte{1}, n)))
		wantWitness(t, api.Witness{From: 1, To: 2, Edges: slices.Repeat([]int{1024}, n)}, slices.Concat([]byte{183, 1, 2, 0, 0, 0, 0}, count, slices.Repeat([]byte{128, 8}, n)))
	}
	for n := range 1025 {
		tryEncode(t, api.Witness{Edges: edges(n)})
	}
}

// An empty list may be nil or empty, and have room.
func TestNoEdges(t *testing.T) {
	for _, none := range [][]int{nil, {}, make([]int, 0, 5), edges(9)[:0]} {
		wantWitness(t, api.Witness{From: 7, To: 9, Bits: 1, Edges: none}, []byte{183, 7, 9, 1, 0, 0, 0, 0})
	}
	wantWitness(t, api.Witness{}, []byte{183, 0, 0, 0, 0, 0, 0, 0})
}

func TestLongLists(t *testing.T) {
	for _, n := range []int{1025, 1026, 1152, 2048, 16384, 65536, 65537, 1 << 20} {
		wantError(t, api.Witness{Edges: edges(n)}, api.ErrLong)
		wantError(t, api.Witness{Edges: make([]int, n)}, api.ErrLong)
	}
}

func TestEdges(t *testing.T) {
	for e, b := range map[int][]byte{1: {1}, 2: {2}, 126: {126}, 127: {127}, 128: {128, 1}, 129: {129, 1}, 183: {183, 1}, 1023: {255, 7}, 1024: {128, 8}} {
		wantWitness(t, api.Witness{Edges: []int{e}}, slices.Concat([]byte{183, 0, 0, 0, 0, 0, 0, 1}, b))
		wantWitness(t, api.Witness{Edges: []int{e, 3}}, slices.Concat([]byte{183, 0, 0, 0, 0, 0, 0, 2}, b, []byte{3}))
		wantWitness(t, api.Witness{Edges: []int{200, e}}, slices.Concat([]byte{183, 0, 0, 0, 0, 0, 0, 2, 200, 1}, b))
		wantWitness(t, api.Witness{Edges: []int{e, e, e}}, slices.Concat([]byte{183, 0, 0, 0, 0, 0, 0, 3}, b, b, b))
	}
	for e := 1; e <= 1024; e++ {
		tryEncode(t, api.Witness{Edges: []int{e}})
	}
}

// noEdges: numbers that aren't from 1 to MaxEdges.
func noEdges() []int {
	return append(noVertices(), 0, 1025, 1026, 1152, 2048, 16383, 16384, 65537, api.MaxId)
}

// At any place of the list.
func TestNoEdgesNumbers(t *testing.T) {
	for _, e := range noEdges() {
		for _, n := range []int{1, 2, 3, 127, 128, 1024} {
			for _, at := range []int{0, n / 2, n - 1} {
				list := edges(n)
				list[at] = e
				wantError(t, api.Witness{From: 5, To: 300, Edges: list}, api.ErrRange)
			}
		}
	}
}

// That there are too many edges is told first, whatever else is wrong.
func TestSeveralFaults(t *testing.T) {
	for _, bad := range noVertices() {
		for _, e := range noEdges() {
			for _, w := range []api.Witness{{From: bad}, {To: bad}, {From: bad, To: bad}, {}} {
				w.Edges = []int{1, e}
				wantError(t, w, api.ErrRange)
				w.Edges = slices.Repeat([]int{1}, 1025)
				wantError(t, w, api.ErrLong)
				w.Edges[0] = e
				wantError(t, w, api.ErrLong)
				w.Edges[0], w.Edges[1024] = 1, e
				wantError(t, w, api.ErrLong)
			}
		}
	}
}

// Whether there is such a walk isn't asked.
func TestNoWalkIsAskedFor(t *testing.T) {
	wantWitness(t, api.Witness{From: 3, To: 8, Bits: 0xffffffff}, []byte{183, 3, 8, 255, 255, 255, 255, 0})
	wantWitness(t, api.Witness{From: 3, To: 3, Bits: 0x80000000, Edges: []int{9, 9}}, []byte{183, 3, 3, 0, 0, 0, 128, 2, 9, 9})
}

// Numbers one behind the other, and those about each power of two.
func TestManyVertices(t *testing.T) {
	for v := range 40000 {
		tryEncode(t, api.Witness{From: v, To: 40000 - v, Edges: []int{1}})
	}
	for power := range 31 {
		for off := -300; off <= 300; off++ {
			tryEncode(t, api.Witness{From: 1<<power + off, To: 5})
			tryEncode(t, api.Witness{From: 5, To: 1<<power + off})
		}
	}
	for off := -300; off <= 300; off++ {
		tryEncode(t, api.Witness{From: api.MaxId + off})
		tryEncode(t, api.Witness{To: api.MaxId + off})
	}
}
