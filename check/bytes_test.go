package check_test

import (
	"bytes"
	"math/rand/v2"
	"slices"
	"testing"

	"bramble/api"
)

// town: a graph of few vertices with edges of many kinds; some of its walks are among told.
func town() *book {
	g := newBook(edge(0, 1, one), edge(1, 1, 0), edge(1, 0, two), edge(0, 128, one), edge(128, 300, 1), edge(300, 0, greatest))
	g.edges[63] = edge(0, 0, 0)
	g.edges[128] = edge(0, 1, 0)
	g.edges[200] = edge(300, 128, many)
	g.edges[1024] = edge(128, 128, one)
	return g
}

// told: witnesses of walks of town, and of such as are none.
func told() []api.Witness {
	return []api.Witness{
		{From: 0, To: 0}, {From: 300, To: 300}, {From: 0, To: 1, Bits: one, Edges: []int{1}}, {From: 0, To: 1, Edges: []int{128}},
		{From: 0, To: 0, Bits: 0x40400000, Edges: []int{1, 2, 2, 3}}, {From: 0, To: 300, Bits: one, Edges: []int{4, 5}},
		{From: 300, To: 128, Bits: 0x4b800000, Edges: []int{200, 1024, 1024}}, {From: 128, To: 1, Bits: greatest, Edges: []int{5, 6, 63, 1}},
		{From: 1, To: 1, Edges: slices.Repeat([]int{2}, 126)}, {From: 0, To: 0, Edges: slices.Repeat([]int{63}, 130)},
		{From: 0, To: 1, Bits: two, Edges: []int{1}}, {From: 0, To: 0, Bits: one, Edges: []int{1}}, {From: 1, To: 1, Edges: []int{1, 2}}, {From: 0, To: 1, Edges: []int{1, 7}}, {From: 2, To: 1},
	}
}

func TestBeginnings(t *testing.T) {
	g := town()
	for _, w := range told() {
		b := bytesOf(t, w)
		try(t, g, w)
		for n := range b {
			g.asked = nil
			wantNone(t, g, b[:n])
			g.wantAsked(t, nil)
		}
	}
}

func TestMoreBytes(t *testing.T) {
	g := town()
	for _, w := range told() {
		for more := range 256 {
			wantNone(t, g, append(bytesOf(t, w), byte(more)))
			tryBytes(t, g, append([]byte{byte(more)}, bytesOf(t, w)...)) // ahead of some, 183 makes a witness of other ends
		}
		wantNone(t, g, bytes.Repeat(bytesOf(t, w), 2))
	}
}

// Each byte turned to every other value: what is a witness's then may be one of another walk.
func TestTurnedBytes(t *testing.T) {
	g := town()
	witnesses := 0
	for _, w := range told() {
		b := bytesOf(t, w)
		for at := range b {
			was := b[at]
			for turned := range 256 {
				b[at] = byte(turned)
				if tryBytes(t, g, b) {
					witnesses++
				}
			}
			b[at] = was
		}
	}
	if witnesses < 1000 {
		t.Errorf("only %d are witnesses", witnesses)
	}
}

// All bytes of few kinds behind the first, so many as a short witness has.
func TestShortBytes(t *testing.T) {
	g := newBook(edge(0, 1, one))
	g.edges[63] = edge(1, 0, one)
	for a := range 256 {
		wantNone(t, g, []byte{byte(a)})
	}
	witnesses, accepted := 0, 0
	var grow func(b []byte)
	grow = func(b []byte) {
		if tryBytes(t, g, b) {
			witnesses++
			if _, errno := g.judged(decoded(t, b)); errno == api.OK {
				accepted++
			}
		}
		if len(b) == 10 {
			return
		}
		for _, next := range []byte{0, 1, 63, 128} {
			grow(append(slices.Clone(b), next))
		}
	}
	grow([]byte{183})
	if witnesses < 1000 || accepted < 4 {
		t.Errorf("only %d are witnesses, and %d accepted", witnesses, accepted)
	}
}

func TestDrawnBytes(t *testing.T) {
	r := rand.New(rand.NewPCG(17, 2))
	g := town()
	for turn := range 20000 {
		b := make([]byte, r.IntN(20))
		for i := range b {
			b[i] = byte(r.Uint32())
		}
		if turn%2 == 0 && len(b) > 0 {
			b[0] = 183
		}
		tryBytes(t, g, b)
	}
	for turn := range 20000 {
		b := bytesOf(t, told()[turn%len(told())])
		for range 1 + r.IntN(3) {
			b[r.IntN(len(b))] = byte(r.Uint32())
		}
		tryBytes(t, g, b)
	}
}

// A long text of any bytes ends soon.
func TestLongBytes(t *testing.T) {
	g := town()
	for _, b := range []byte{0, 1, 127, 128, 183, 255} {
		wantNone(t, g, bytes.Repeat([]byte{b}, 1<<20))
		wantNone(t, g, append([]byte{183, 0, 0, 0, 0, 0, 0}, bytes.Repeat([]byte{b}, 1<<20)...))
	}
}
