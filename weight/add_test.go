package weight_test

import (
	"math"
	"math/big"
	"math/rand/v2"
	"slices"
	"testing"

	"bramble/weight"
)

// units: how many times 2^-149, of which every finite float32 is a multiple, makes the weight of these bits.
func units(b uint32) *big.Int {
	fraction, exponent := int64(b&0x007fffff), uint(b>>23)
	if exponent == 0 {
		return big.NewInt(fraction)
	}
	return new(big.Int).Lsh(big.NewInt(fraction|0x00800000), exponent-1)
}

func powerOfTwo(n uint) *big.Int { return new(big.Int).Lsh(big.NewInt(1), n) }

// rounded: the bits of n units as the chapter says it: nearest, ties to the even one, +Inf from 2^128 - 2^103 on.
func rounded(n *big.Int) uint32 {
	bound := new(big.Int).Sub(powerOfTwo(128+149), powerOfTwo(103+149))
	if n.Cmp(bound) >= 0 {
		return plusInf
	}
	if n.BitLen() <= 24 {
		return uint32(n.Uint64()) // the first two exponents share their step, and the bits count it
	}
	drop := uint(n.BitLen() - 24)
	kept := new(big.Int).Rsh(n, drop)
	rest := new(big.Int).Sub(n, new(big.Int).Lsh(kept, drop))
	up := rest.Cmp(powerOfTwo(drop - 1))
	bits := uint32(drop)<<23 + uint32(kept.Uint64())
	if up > 0 || up == 0 && kept.Bit(0) == 1 {
		bits++ // the carry goes on into the exponent
	}
	return bits
}

func counted(b uint32) uint32 {
	switch {
	case b == minusZero:
		return 0
	case isCost(b):
		return b
	}
	return plusInf
}

// sum: what Add must answer, worked out on whole numbers.
func sum(a, w uint32) uint32 {
	a, w = counted(a), counted(w)
	if a == plusInf || w == plusInf {
		return plusInf
	}
	return rounded(new(big.Int).Add(units(a), units(w)))
}

func floats(bits []uint32) []float32 {
	var fs []float32
	for _, b := range bits {
		fs = append(fs, of(b))
	}
	return fs
}

func TestAddByExamples(t *testing.T) {
	inf, nan := of(plusInf), of(0x7fc00001)
	for _, c := range []struct{ a, w, want float32 }{
		{16777216, 1, 16777216}, {1, 16777216, 16777216}, {16777216, 3, 16777220}, {16777218, 1, 16777220}, {16777216, 2, 16777218},
		{16777216, of(0x3f800001), 16777218}, {16777216, of(0x3f7fffff), 16777216},
		{1, 2, 3}, {0, 0, 0}, {0, 1.5, 1.5}, {of(least), of(least), of(2)}, {of(0x007fffff), of(least), of(0x00800000)}, {of(least), 1, 1},
		{of(greatest), of(greatest), inf}, {of(greatest), 1, of(greatest)}, {of(greatest), of(least), of(greatest)}, {of(greatest), 0, of(greatest)},
		{inf, 0, inf}, {0, inf, inf}, {inf, inf, inf}, {inf, 1, inf},
		{nan, 1, inf}, {1, nan, inf}, {nan, nan, inf}, {-1, 1, inf}, {1, -1, inf}, {-inf, 1, inf}, {inf, -inf, inf}, {-1, -1, inf}, {of(0x80000001), 0, inf},
	} {
		if got := weight.Add(c.a, c.w); math.Float32bits(got) != math.Float32bits(c.want) {
			t.Errorf("P1.2: Add(%v, %v): %v", c.a, c.w, got)
		}
	}
}

func TestAddOfMinusZero(t *testing.T) {
	for _, c := range [][3]uint32{{minusZero, minusZero, 0}, {minusZero, 0, 0}, {0, minusZero, 0}, {minusZero, 0x3f800000, 0x3f800000}, {least, minusZero, least}} {
		if got := weight.Add(of(c[0]), of(c[1])); math.Float32bits(got) != c[2] {
			t.Errorf("P1.2: Add(%08x, %08x): %08x", c[0], c[1], math.Float32bits(got))
		}
	}
}

// The greatest float32 is 2^128 - 2^104: what makes it +Inf begins with another 2^103.
func TestAddAtTheBound(t *testing.T) {
	half := math.Float32bits(float32(math.Ldexp(1, 103)))
	for _, c := range [][3]uint32{
		{greatest, half, plusInf}, {greatest, half + 1, plusInf}, {greatest, half - 1, greatest},
		{half, greatest, plusInf}, {half - 1, greatest, greatest},
		{0x7f000000, 0x7f000000, plusInf}, {0x7f000000, 0x7effffff, plusInf}, {0x7f000000, 0x7efffffe, greatest}, {0x7f000000, 0x7efffffd, 0x7f7ffffe},
	} {
		if got := weight.Add(of(c[0]), of(c[1])); math.Float32bits(got) != c[2] || sum(c[0], c[1]) != c[2] {
			t.Errorf("P1.2: Add(%08x, %08x): %08x, asked %08x", c[0], c[1], math.Float32bits(got), c[2])
		}
	}
}

func TestAddToTheBit(t *testing.T) {
	try := func(a, w uint32) {
		if got := weight.Add(of(a), of(w)); math.Float32bits(got) != sum(a, w) {
			t.Fatalf("P1.2: Add(%08x, %08x): %08x, asked %08x", a, w, math.Float32bits(got), sum(a, w))
		}
	}
	few := edgeBits()
	for _, a := range few {
		for _, w := range few {
			try(a, w)
		}
	}
	r := rand.New(rand.NewPCG(3, 4))
	for range 100000 {
		a := r.Uint32N(plusInf)
		near := a - min(a, r.Uint32N(26<<23)) // exponents so near that the rounding counts
		try(a, near)
		try(near, a)
		try(r.Uint32(), r.Uint32())
	}
}

// Sums that lie just between two: the even one, whether it is below or above.
func TestAddJustBetween(t *testing.T) {
	r := rand.New(rand.NewPCG(5, 6))
	for range 20000 {
		exponent := 25 + r.Uint32N(254-25)
		a := exponent<<23 | r.Uint32N(1<<23)
		half := (exponent - 24) << 23
		want := a + a&1
		if got := weight.Add(of(a), of(half)); math.Float32bits(got) != want {
			t.Fatalf("P1.2: Add(%08x, %08x): %08x, asked %08x", a, half, math.Float32bits(got), want)
		}
	}
}

func TestFoldByExamples(t *testing.T) {
	inf := of(plusInf)
	for _, c := range []struct {
		ws   []float32
		want float32
	}{
		{nil, 0}, {[]float32{}, 0}, {[]float32{1.5}, 1.5}, {[]float32{of(minusZero)}, 0}, {[]float32{of(minusZero), of(minusZero)}, 0},
		{[]float32{1, 16777216, 1}, 16777216}, {[]float32{16777216, 1, 1}, 16777216}, {[]float32{1, 1, 16777216}, 16777218},
		{[]float32{of(greatest), of(greatest)}, inf}, {[]float32{inf, 1}, inf}, {[]float32{of(0xffc00000)}, inf}, {[]float32{1, -1}, inf}, {[]float32{-1}, inf}, {[]float32{-inf, 0}, inf},
	} {
		if got := weight.Fold(c.ws); math.Float32bits(got) != math.Float32bits(c.want) {
			t.Errorf("P1.2: Fold(%v): %v", c.ws, got)
		}
	}
}

// mixedLists: lists of weights of near sizes, now and then with one that is none.
func mixedLists(n int) [][]uint32 {
	r := rand.New(rand.NewPCG(7, 8))
	var lists [][]uint32
	for range n {
		var l []uint32
		for range r.IntN(20) {
			l = append(l, 0x45000000+r.Uint32N(20<<23))
		}
		if r.IntN(4) == 0 {
			l = append(l, edgeBits()[r.IntN(len(edgeBits()))], 0x3f800000)
		}
		lists = append(lists, l)
	}
	return lists
}

func TestFoldToTheBit(t *testing.T) {
	for _, l := range mixedLists(3000) {
		want := uint32(0)
		for _, b := range l {
			want = sum(want, b)
		}
		if got := weight.Fold(floats(l)); math.Float32bits(got) != want || !weight.Cost(got) {
			t.Fatalf("P1.2: Fold(%08x): %08x, asked %08x", l, math.Float32bits(got), want)
		}
	}
}

func TestAnswersAreCosts(t *testing.T) {
	few := edgeBits()
	for _, a := range few {
		for _, w := range few {
			if !weight.Cost(weight.Add(of(a), of(w))) || !weight.Cost(weight.Fold(floats([]uint32{a, w}))) {
				t.Errorf("P1.2: Add or Fold of %08x, %08x is no cost", a, w)
			}
		}
	}
}

func TestRising(t *testing.T) {
	costs := costBits(someBits(200))
	for _, a := range costs {
		if got := weight.Add(of(a), 0); math.Float32bits(got) != a {
			t.Errorf("P1.3: Add(%08x, +0): %08x", a, math.Float32bits(got))
		}
		for _, w := range costs {
			first := weight.Add(of(a), of(w))
			if weight.Before(first, of(a)) {
				t.Fatalf("P1.3: Add(%08x, %08x) is below the first", a, w)
			}
			for _, b := range costs {
				if a <= b && weight.Before(weight.Add(of(b), of(w)), first) {
					t.Fatalf("P1.3: %08x, %08x change places when %08x is added", a, b, w)
				}
			}
		}
	}
}

func TestFoldGoesOn(t *testing.T) {
	for _, l := range mixedLists(1000) {
		ws := floats(l)
		whole := math.Float32bits(weight.Fold(ws))
		for cut := range len(ws) + 1 {
			got := weight.Fold(ws[:cut])
			for _, w := range ws[cut:] {
				got = weight.Add(got, w)
			}
			if math.Float32bits(got) != whole {
				t.Fatalf("P1.4: Fold(%08x) cut at %d: %08x, not %08x", l, cut, math.Float32bits(got), whole)
			}
		}
	}
	first, second := []float32{16777216}, []float32{1, 1}
	if weight.Fold(slices.Concat(first, second)) == weight.Add(weight.Fold(first), weight.Fold(second)) {
		t.Error("P1.4: Fold adds the folds of its halves")
	}
}

func TestFoldLeavesItsList(t *testing.T) {
	bits := []uint32{0x3f800000, minusZero, 0x7fc00001, 0xff800000, 0xbf800000, 0x4b800000, 0x7f800001}
	room := floats(bits)
	weight.Fold(room[:4])
	weight.Fold(room[:0])
	weight.Fold(room)
	for i, w := range room {
		if math.Float32bits(w) != bits[i] {
			t.Errorf("P1.5: place %d: %08x, was %08x", i, math.Float32bits(w), bits[i])
		}
	}
}
