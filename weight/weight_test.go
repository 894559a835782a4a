package weight_test

import (
	"math"
	"math/rand/v2"
	"slices"
	"testing"

	"bramble/api"
	"bramble/weight"
)

const (
	plusInf   = 0x7f800000
	minusZero = 0x80000000
	greatest  = 0x7f7fffff
	least     = 0x00000001
	quietNaN  = 0x7fc00000
)

func of(bits uint32) float32 { return math.Float32frombits(bits) }

// edgeBits: the places at which the kinds of float32 meet, with their neighbours, and some in between.
func edgeBits() []uint32 {
	var all []uint32
	for _, b := range []uint32{0, 0x00800000, 0x3f800000, 0x4b800000, plusInf, quietNaN, minusZero, 0x80800000, 0xbf800000, 0xff800000, 0xffc00000} {
		all = append(all, b-1, b, b+1, b+2)
	}
	return append(all, 0x33800000, 0x34000000, 0x34800000, 0x4b000000, 0x4b7fffff, 0x4c000000, 0x73000000, 0x73000001, 0x72ffffff, 0x7f000000, 0x7f000001, 0x7effffff)
}

// someBits: the edges, and bits from all over the range, the same in every run.
func someBits(n int) []uint32 {
	r := rand.New(rand.NewPCG(1, uint64(n)))
	all := edgeBits()
	for range n {
		all = append(all, r.Uint32())
	}
	return all
}

// costBits: those of bits that are a cost's.
func costBits(bits []uint32) []uint32 {
	return slices.DeleteFunc(bits, func(b uint32) bool { return b > plusInf })
}

// isWeight and isCost go by math alone, on float64: another road than the package's.
func isWeight(b uint32) bool {
	x := float64(of(b))
	return !math.IsNaN(x) && !math.IsInf(x, 0) && x >= 0
}

func isCost(b uint32) bool {
	x := float64(of(b))
	return !math.IsNaN(x) && x >= 0 && !math.Signbit(x)
}

func TestAdmitByExamples(t *testing.T) {
	for _, c := range []struct{ bits, want uint32 }{
		{0x3f800000, 0x3f800000}, {minusZero, 0}, {0, 0}, {least, least}, {greatest, greatest}, {0x007fffff, 0x007fffff},
	} {
		w, e := weight.Admit(c.bits)
		if e != api.OK || math.Float32bits(w) != c.want {
			t.Errorf("P1.1: Admit(%08x): %08x, %d", c.bits, math.Float32bits(w), e)
		}
	}
	for _, b := range []uint32{plusInf, 0xbf800000, 0x7fc00001, 0x7f800001, 0xff800000, 0xff800001, 0x80000001, 0x80800000, 0xff7fffff, 0xffffffff, 0x7fffffff} {
		w, e := weight.Admit(b)
		if e != api.ErrBadWeight || math.Float32bits(w) != 0 {
			t.Errorf("P1.1: Admit(%08x): %08x, %d", b, math.Float32bits(w), e)
		}
	}
}

func TestAdmitEverywhere(t *testing.T) {
	for _, b := range someBits(200000) {
		w, e := weight.Admit(b)
		wantBits, want := b, api.OK
		if !isWeight(b) {
			wantBits, want = 0, api.ErrBadWeight
		} else if b == minusZero {
			wantBits = 0
		}
		if e != want || math.Float32bits(w) != wantBits {
			t.Fatalf("P1.1: Admit(%08x): %08x, %d", b, math.Float32bits(w), e)
		}
		if e == api.OK && !weight.Cost(w) {
			t.Fatalf("P1.1: Admit(%08x) is no cost", b)
		}
	}
}

func TestBits(t *testing.T) {
	for _, b := range someBits(200000) {
		want := b
		if math.IsNaN(float64(of(b))) {
			want = quietNaN
		}
		if got := weight.Bits(of(b)); got != want {
			t.Fatalf("P1.1: Bits of %08x: %08x", b, got)
		}
	}
	if got := weight.Bits(of(minusZero)); got != minusZero {
		t.Errorf("P1.1: Bits of -0: %08x", got)
	}
}

func TestCost(t *testing.T) {
	for _, b := range someBits(200000) {
		if got := weight.Cost(of(b)); got != isCost(b) {
			t.Fatalf("P1.1: Cost of %08x: %v", b, got)
		}
	}
	for b, want := range map[uint32]bool{0: true, least: true, greatest: true, plusInf: true, minusZero: false, 0x7f800001: false, quietNaN: false, 0xbf800000: false, 0xff800000: false} {
		if weight.Cost(of(b)) != want {
			t.Errorf("P1.1: Cost of %08x isn't %v", b, want)
		}
	}
}

func TestBefore(t *testing.T) {
	nan, inf := of(quietNaN), of(plusInf)
	for _, c := range []struct {
		a, b float32
		want bool
	}{
		{1, 2, true}, {2, 1, false}, {1, 1, false}, {0, of(least), true}, {of(greatest), inf, true}, {inf, inf, false}, {inf, 1, false},
		{of(minusZero), 0, false}, {0, of(minusZero), false}, {-1, 0, true}, {-2, -1, true}, {-1, -2, false}, {-inf, inf, true}, {-1, of(minusZero), true},
		{nan, 1, false}, {1, nan, false}, {nan, nan, false}, {nan, inf, false}, {-inf, nan, false},
	} {
		if weight.Before(c.a, c.b) != c.want {
			t.Errorf("P1.1: Before(%v, %v) isn't %v", c.a, c.b, c.want)
		}
	}
}

// Of two costs the lesser one has the lesser bits (R10).
func TestBeforeGoesByBitsOfCosts(t *testing.T) {
	costs := costBits(someBits(1000))
	for _, a := range costs {
		for _, b := range costs {
			if weight.Before(of(a), of(b)) != (a < b) {
				t.Fatalf("R10: Before(%08x, %08x): %v", a, b, a >= b)
			}
		}
	}
}
