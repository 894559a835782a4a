package check_test

import (
	"math/rand/v2"
	"testing"

	"bramble/api"
	"bramble/weight"
)

// road: edges of these bits, from 0 to 1, from there to 2 and so on, and the witness of the walk along them.
func road(bits ...uint32) (*book, api.Witness) {
	g, w := path(len(bits))
	for i, b := range bits {
		g.edges[i+1] = edge(i, i+1, b)
	}
	return g, w
}

// wantCost: of the walk along a road just these bits are accepted.
func wantCost(t *testing.T, want uint32, bits ...uint32) {
	t.Helper()
	g, w := road(bits...)
	w.Bits = want
	wantCheck(t, g, w, 0, api.OK)
	others := []uint32{want + 1, want - 1, ^want, 0, one, minus0, greatest, plusInf, 0x7f800001, 0x7fc00000, 0x7fffffff, 0xff800000, 0xffc00000, 0xffffffff}
	for at := range 32 {
		others = append(others, want^1<<at)
	}
	for _, other := range others {
		if other == want {
			continue
		}
		w.Bits = other
		wantCheck(t, g, w, 0, api.ErrCost)
	}
}

func TestCosts(t *testing.T) {
	wantCost(t, 0)
	wantCost(t, 0, 0)
	wantCost(t, one, one)
	wantCost(t, 1, 1)
	wantCost(t, 3, 1, 1, 1)
	wantCost(t, two, one, one)
	wantCost(t, greatest, greatest)
}

// Sums that rounding swallows, and those that the other order would not lose.
func TestRounding(t *testing.T) {
	wantCost(t, many, many, one)
	wantCost(t, many, many, one, one)
	wantCost(t, 0x4b800001, one, one, many)
	wantCost(t, many, one, many, one)
	wantCost(t, 0x4b800002, many, 0x40400000)
	wantCost(t, many, many, one, one, one, one, one, one, one)
}

// Sums that pass the greatest float32, and those that just don't.
func TestOverflow(t *testing.T) {
	wantCost(t, plusInf, greatest, greatest)
	wantCost(t, plusInf, greatest, 0x73000000)
	wantCost(t, greatest, greatest, 0x72ffffff)
	wantCost(t, greatest, greatest, 0x72ffffff, 0x72ffffff, 0x72ffffff)
	wantCost(t, plusInf, 0x72ffffff, 0x72ffffff, 0x72ffffff, greatest)
	wantCost(t, plusInf, greatest, greatest, 0, one)
}

// Records whose weights are none count as layer 1 says; their bits are never a cost.
func TestNoWeights(t *testing.T) {
	wantCost(t, 0, minus0)
	wantCost(t, 0, minus0, minus0)
	wantCost(t, two, one, minus0, one)
	for _, bits := range []uint32{plusInf, 0xff800000, 0xbf800000, 0x80000001, 0x7f800001, 0x7fc00000, 0x7fffffff, 0xffc00000, 0xffffffff} {
		wantCost(t, plusInf, bits)
		wantCost(t, plusInf, one, bits, one)
	}
	wantCost(t, plusInf, one, 0xbf800000)
	wantCost(t, plusInf, plusInf, 0xff800000)
}

// The fold of layer 1, of drawn weights in their order: just it is accepted, not that of another order.
func TestCostIsTheFold(t *testing.T) {
	r := rand.New(rand.NewPCG(17, 1))
	differ := 0
	for range 2000 {
		var bits []uint32
		var ws []float32
		for range 1 + r.IntN(12) {
			w, errno := weight.Admit(0x45000000 + r.Uint32N(20<<23))
			if errno != api.OK {
				t.Fatal(errno)
			}
			bits, ws = append(bits, weight.Bits(w)), append(ws, w)
		}
		g, w := road(bits...)
		w.Bits = weight.Bits(weight.Fold(ws))
		wantCheck(t, g, w, 0, api.OK)
		for i, j := 0, len(ws)-1; i < j; i, j = i+1, j-1 {
			ws[i], ws[j] = ws[j], ws[i]
		}
		other := weight.Bits(weight.Fold(ws))
		if other == w.Bits {
			continue
		}
		differ++
		w.Bits = other
		wantCheck(t, g, w, 0, api.ErrCost)
	}
	if differ < 100 {
		t.Errorf("only %d sums hang on the order", differ)
	}
}
