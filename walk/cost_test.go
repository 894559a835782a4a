package walk_test

import (
	"math"
	"math/rand/v2"
	"testing"

	"bramble/api"
	"bramble/weight"
)

// road: edges 1, 2 and so on, of these bits, from 0 to 1, from there to 2, and so on; and the list of them.
func road(bits ...uint32) (*book, []int) {
	g := newBook()
	var es []int
	for i, b := range bits {
		g.edges[i+1] = api.Edge{E: i + 1, U: i, V: i + 1, Bits: b}
		es = append(es, i+1)
	}
	return g, es
}

const (
	one      = 0x3f800000
	many     = 0x4b800000 // 2^24: the sum of it and 1 lies between two
	greatest = 0x7f7fffff
	plusInf  = 0x7f800000
	minusInf = 0xff800000
	minusOne = 0xbf800000
	minus0   = 0x80000000
)

func TestCosts(t *testing.T) {
	for _, c := range []struct {
		name string
		bits []uint32
		want uint32
	}{
		{"zeros", []uint32{0, 0}, 0},
		{"the least", []uint32{1, 1, 1}, 3},
		{"rounded down at each sum", []uint32{many, one, one}, many},
		{"rounded once", []uint32{one, one, many}, 0x4b800001},
		{"rounded to even", []uint32{many, 0x40400000}, 0x4b800002},
		{"the chapter's on weights", []uint32{one, many, one}, many},
		{"overflow", []uint32{greatest, greatest}, plusInf},
		{"overflow by a half", []uint32{greatest, 0x73000000}, plusInf},
		{"just no overflow", []uint32{greatest, 0x72ffffff}, greatest},
		{"behind an overflow", []uint32{greatest, greatest, 0, one}, plusInf},
		{"of many that are too small each", []uint32{greatest, 0x72ffffff, 0x72ffffff, 0x72ffffff}, greatest},
		{"-0 alone", []uint32{minus0}, 0},
		{"-0 twice", []uint32{minus0, minus0}, 0},
		{"-0 among others", []uint32{one, minus0, one}, 0x40000000},
		{"+Inf", []uint32{plusInf}, plusInf},
		{"+Inf and then others", []uint32{plusInf, one, 0}, plusInf},
		{"-Inf", []uint32{minusInf}, plusInf},
		{"+Inf and -Inf", []uint32{plusInf, minusInf}, plusInf},
		{"-Inf and +Inf", []uint32{minusInf, plusInf}, plusInf},
		{"below 0", []uint32{minusOne}, plusInf},
		{"1 and -1", []uint32{one, minusOne}, plusInf},
		{"-1 and 1", []uint32{minusOne, one}, plusInf},
		{"the least below 0", []uint32{one, 0x80000001}, plusInf},
		{"a NaN", []uint32{0x7fc00000}, plusInf},
		{"a NaN that signals", []uint32{one, 0x7f800001, one}, plusInf},
		{"a NaN below 0", []uint32{one, 0xffffffff}, plusInf},
	} {
		t.Run(c.name, func(t *testing.T) {
			g, es := road(c.bits...)
			wantFollow(t, g, 0, es, len(es), c.want, 0, api.OK)
			wantSimple(t, g, 0, es, es...)
			try(t, g, 0, es)
		})
	}
}

// What weighs nothing, or isn't a weight, is no reason for Through and Simple to leave it out, or to refuse it.
func TestWeightsDoNotLead(t *testing.T) {
	for _, bits := range []uint32{0, minus0, plusInf, minusInf, minusOne, 0x7fc00000, greatest} {
		g, es := road(bits, bits, bits)
		wantThrough(t, g, 0, es, 0, 1, 2, 3)
		wantSimple(t, g, 0, es, 1, 2, 3)
	}
}

// The fold of layer 1, of all weights in their order; begun anew by each call.
func TestCostIsTheFold(t *testing.T) {
	r := rand.New(rand.NewPCG(8, 3))
	for turn := range 3000 {
		var bits []uint32
		for range r.IntN(30) {
			b := 0x45000000 + r.Uint32N(20<<23)
			if turn%5 == 0 && r.IntN(20) == 0 {
				b = r.Uint32()
			}
			bits = append(bits, b)
		}
		var ws []float32
		for _, b := range bits {
			ws = append(ws, math.Float32frombits(b))
		}
		g, es := road(bits...)
		want := foldBits(bits)
		if want != weight.Bits(weight.Fold(ws)) {
			t.Fatalf("two models of a fold: %08x, %08x", want, weight.Bits(weight.Fold(ws)))
		}
		wantFollow(t, g, 0, es, len(es), want, 0, api.OK)
		wantFollow(t, g, 0, es, len(es), want, 0, api.OK)
	}
}

// P8.2 where sums round: the walk without its loops costs no more, though another order of weights might.
func TestSimpleCostsNoMore(t *testing.T) {
	r := rand.New(rand.NewPCG(8, 4))
	kinds := []uint32{0, 1, minus0, one, many, 0x4b800001, 0x33800000, 0x34000000, 0x72ffffff, 0x73000000, greatest, plusInf, minusOne, 0x7fc00000}
	for range 3000 {
		g := newBook()
		stops, es := []int{0}, []int{}
		for i := range 1 + r.IntN(15) {
			stops = append(stops, r.IntN(5))
			g.edges[i] = api.Edge{U: stops[i], V: stops[i+1], Bits: kinds[r.IntN(len(kinds))]}
			es = append(es, i)
		}
		try(t, g, 0, es)
	}
}
