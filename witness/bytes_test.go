package witness_test

import (
	"math"
	"math/big"
	"math/rand/v2"
	"slices"
	"testing"

	"bramble/api"
	"bramble/witness"
)

// several: witnesses of all sizes.
func several() []api.Witness {
	list := []api.Witness{
		{}, example(), {From: 1, To: 2, Bits: 0x3f800000, Edges: []int{1}}, {From: 127, To: 128, Bits: 0xffffffff, Edges: []int{127, 128, 1, 1024}},
		{From: 16383, To: 16384, Bits: 0x7fc00000}, {From: api.MaxId, To: api.MaxId, Bits: 0x80818283, Edges: []int{1024, 1, 1024}},
		{From: 183, To: 183, Bits: 0xb7b7b7b7, Edges: []int{183, 183}}, {From: 128, To: 1 << 28, Edges: []int{128}},
	}
	for _, n := range []int{126, 127, 128, 129, 1023, 1024} {
		list = append(list, api.Witness{From: n, To: 300 * n, Bits: uint32(n) << 20, Edges: edges(n)})
	}
	return list
}

func TestNoBytes(t *testing.T) {
	wantNone(t, "nil", nil)
	wantNone(t, "empty", []byte{})
	wantNone(t, "empty, with room", bytesOf(example())[:0])
}

// Each beginning of a witness's bytes, though what is behind it stands in its spare room.
func TestBeginnings(t *testing.T) {
	for _, w := range several() {
		b := bytesOf(w)
		for n := range b {
			wantNone(t, "a beginning", b[:n])
			wantNone(t, "a beginning", slices.Clip(b[:n]))
		}
		wantWitness(t, w, b)
	}
}

func TestOneByteMore(t *testing.T) {
	for _, w := range several() {
		b := bytesOf(w)
		for more := range 256 {
			wantNone(t, "one byte more", append(slices.Clone(b), byte(more)))
			wantNone(t, "two bytes more", append(slices.Clone(b), byte(more), 0))
			// Behind 183 the former first byte may belong to a number.
			tryDecode(t, append([]byte{byte(more)}, b...))
		}
		wantNone(t, "twice", append(slices.Clone(b), b...))
	}
}

func TestAnotherFirstByte(t *testing.T) {
	for _, w := range several() {
		b := bytesOf(w)
		for first := range 256 {
			b[0] = byte(first)
			if first != 183 {
				wantNone(t, "another first byte", b)
			}
		}
		tryDecode(t, b[1:])
	}
}

// numbers: the places of the numbers among the pieces of w, a few of the edges' only.
func numbers(w api.Witness) []int {
	places := []int{atFrom, atTo, atCount}
	for i := range w.Edges {
		if i < 3 || i >= len(w.Edges)-2 {
			places = append(places, atEdges+i)
		}
	}
	return places
}

// longer: a number's bytes, and behind it so many bytes of seven bits more that add nothing, of which the last is 0.
func longer(piece []byte, more int) []byte {
	b := slices.Clone(piece)
	b[len(b)-1] += 128
	b = append(b, slices.Repeat([]byte{128}, more-1)...)
	return append(b, 0)
}

// A number in more bytes than it needs, up to very many.
func TestLongerNumbers(t *testing.T) {
	for _, w := range several() {
		for _, place := range numbers(w) {
			piece := pieces(w)[place]
			for more := 1; more < 40; more++ {
				wantNone(t, "a longer number", with(w, place, longer(piece, more)...))
			}
			for _, more := range []int{100, 127, 128, 1000, 1 << 16} {
				wantNone(t, "a much longer number", with(w, place, longer(piece, more)...))
			}
		}
	}
	wantNone(t, "a longer number", with(example(), atFrom, longer([]byte{5}, 1<<24)...))
}

// A number that goes on and on: there is no last byte.
func TestNumbersWithoutEnd(t *testing.T) {
	for _, w := range several() {
		for _, place := range numbers(w) {
			for _, b := range []byte{128, 129, 133, 192, 255} {
				for _, n := range []int{1, 2, 3, 4, 5, 6, 9, 10, 11, 100, 4000} {
					list := pieces(w)[:place+1]
					list[place] = slices.Repeat([]byte{b}, n)
					wantNone(t, "a number without end", joined(list))
				}
			}
		}
	}
}

// tooGreat: numbers that are nowhere allowed, of any size: near powers of two, and such as would be small ones if their upper bits were lost.
func tooGreat() []*big.Int {
	var list []*big.Int
	for power := uint(31); power < 160; power++ {
		n := new(big.Int).Lsh(big.NewInt(1), power)
		for _, off := range []int64{0, 1, 2, 5, 127, 128, 200, 300, 1024, 1025, api.MaxId, math.MaxInt64} {
			list = append(list, new(big.Int).Add(n, big.NewInt(off)))
		}
		if power > 31 {
			list = append(list, new(big.Int).Sub(n, big.NewInt(1)), new(big.Int).Sub(n, big.NewInt(2)))
		}
	}
	return append(list, new(big.Int).Lsh(big.NewInt(3), 5000), new(big.Int).Add(new(big.Int).Lsh(big.NewInt(1), 7*64), big.NewInt(1)))
}

func TestTooGreatForAnyPlace(t *testing.T) {
	for _, w := range several()[:8] {
		for _, place := range numbers(w) {
			for _, n := range tooGreat() {
				wantNone(t, "too great a number", with(w, place, numbered(n)...))
			}
		}
	}
}

// The number that stands there, and what would be lost of a number that has too many bits for an int.
func TestLostBits(t *testing.T) {
	for _, w := range several() {
		values := append([]int{0, w.From, w.To, 0, len(w.Edges)}, w.Edges...)
		for _, place := range numbers(w) {
			for power := uint(31); power < 200; power++ {
				n := new(big.Int).Lsh(big.NewInt(1), power)
				wantNone(t, "too great a number", with(w, place, numbered(n.Add(n, big.NewInt(int64(values[place]))))...))
			}
		}
	}
}

// Numbers of ten bytes whose last one is 2, 4, .. : an int would lose them whole.
func TestNothingButLostBits(t *testing.T) {
	for zeros := 1; zeros < 30; zeros++ {
		for last := 1; last < 128; last++ {
			number := append(slices.Repeat([]byte{128}, zeros), byte(last))
			for _, place := range []int{atFrom, atTo, atCount, atEdges, atEdges + 1} {
				tryDecode(t, with(example(), place, number...))
				if zeros > 4 {
					wantNone(t, "too great a number", with(example(), place, number...))
				}
			}
		}
	}
}

// One more than may stand there.
func TestTooGreatForTheirPlace(t *testing.T) {
	for _, w := range several() {
		for _, place := range numbers(w) {
			most := map[int]int{atFrom: api.MaxId, atTo: api.MaxId}[place]
			if most == 0 {
				most = 1024
			}
			for more := 1; more < 300; more++ {
				wantNone(t, "too great a number", with(w, place, number(most+more)...))
			}
			if place != atCount && !tryDecode(t, with(w, place, number(most)...)) {
				t.Fatalf("the model refuses %d", most)
			}
		}
	}
}

func TestEdgesOfZero(t *testing.T) {
	for _, w := range several() {
		for i := range w.Edges {
			wantNone(t, "an edge 0", with(w, atEdges+i, 0))
		}
	}
}

// A count of more edges than there are, or of less.
func TestOtherCounts(t *testing.T) {
	for _, w := range several() {
		for n := range 1030 {
			if n != len(w.Edges) {
				wantNone(t, "another count", with(w, atCount, number(n)...))
			}
		}
	}
}

// More than MaxWalk edges, that are all there.
func TestTooManyEdges(t *testing.T) {
	for _, n := range []int{1025, 1026, 2048, 16384, 1 << 17} {
		wantNone(t, "too many edges", bytesOf(api.Witness{From: 1, To: 2, Edges: edges(n)}))
		wantNone(t, "too many edges", bytesOf(api.Witness{Edges: slices.Repeat([]int{1}, n)}))
	}
	b := bytesOf(api.Witness{Edges: edges(1024)})
	wantNone(t, "one edge more than the count", append(b, 1))
}

// A piece that is left out, or stands twice.
func TestPiecesMissingAndTwice(t *testing.T) {
	for _, w := range several()[:8] {
		list := pieces(w)
		for i := range list {
			tryDecode(t, joined(slices.Delete(slices.Clone(list), i, i+1)))
			tryDecode(t, joined(slices.Insert(slices.Clone(list), i, list[i])))
			for j := range i {
				turned := slices.Clone(list)
				turned[i], turned[j] = list[j], list[i]
				tryDecode(t, joined(turned))
			}
		}
	}
}

// Each byte turned to every other value; then two of them.
func TestTurnedBytes(t *testing.T) {
	witnesses := 0
	for _, w := range several() {
		b := bytesOf(w)
		for i, was := range b {
			if len(b) > 100 && i > 20 && i < len(b)-20 && i%17 != 0 {
				continue // of a long list not all edges
			}
			for turned := range 256 {
				b[i] = byte(turned)
				if tryDecode(t, b) {
					witnesses++
				}
			}
			b[i] = was
		}
		wantWitness(t, w, b)
	}
	if witnesses < 10000 {
		t.Errorf("%d witnesses only", witnesses)
	}
}

func TestTwoTurnedBytes(t *testing.T) {
	few := []byte{0, 1, 2, 3, 7, 8, 127, 128, 129, 183, 254, 255}
	for _, w := range several()[:8] {
		b := bytesOf(w)
		for i := range b {
			for j := range i {
				first, second := b[i], b[j]
				for _, x := range few {
					for _, y := range few {
						b[i], b[j] = x, y
						tryDecode(t, b)
					}
				}
				b[i], b[j] = first, second
			}
		}
	}
}

// count: in base n, the next one of these digits; false behind the last one.
func count(digits []int, n int) bool {
	for i := range digits {
		if digits[i]++; digits[i] < n {
			return true
		}
		digits[i] = 0
	}
	return false
}

// everyString goes through all strings of n bytes out of few.
func everyString(n int, few []byte, each func(b []byte)) {
	digits, b := make([]int, n), make([]byte, n)
	for more := true; more; more = count(digits, len(few)) {
		for i, d := range digits {
			b[i] = few[d]
		}
		each(b)
	}
}

// All strings of few bytes behind the first one.
func TestAllShortStrings(t *testing.T) {
	var all []byte
	for b := range 256 {
		all = append(all, byte(b))
	}
	for n := range 3 {
		everyString(n, all, func(b []byte) { wantNone(t, "too few bytes", b) })
	}
	few, witnesses := []byte{0, 1, 2, 128, 255}, 0
	for n := range 9 {
		everyString(n, few, func(b []byte) {
			if tryDecode(t, append([]byte{183}, b...)) {
				witnesses++
			}
		})
	}
	// Of seven bytes: each of the numbers of one byte, Bits, and no edge. Of eight: besides, a number of two bytes, or an edge.
	numbers, bits := 3, 5*5*5*5
	twoBytes := 2 * 2 // 128 or 255, and 1 or 2 behind it
	want := numbers*numbers*bits + 2*numbers*twoBytes*bits + numbers*numbers*bits*2
	if witnesses != want {
		t.Errorf("%d witnesses, not %d", witnesses, want)
	}
}

// All that may stand ahead of Bits and behind them, out of few bytes.
func TestAllHeadsAndTails(t *testing.T) {
	few := []byte{0, 1, 2, 7, 8, 128, 129, 255}
	for n := range 6 {
		everyString(n, few, func(b []byte) {
			tryDecode(t, slices.Concat([]byte{183}, b, []byte{1, 2, 3, 132, 1, 5}))
			tryDecode(t, slices.Concat([]byte{183, 5, 172, 2, 1, 2, 3, 132}, b))
			tryDecode(t, slices.Concat([]byte{183, 5}, b, []byte{1, 2, 3, 132, 0}))
		})
	}
}

// drawnNumber: from least to most, of all sizes.
func drawnNumber(r *rand.Rand, least, most int) int {
	return min(most, least+r.IntN(1<<r.IntN(32)))
}

func drawnWitness(r *rand.Rand) api.Witness {
	w := api.Witness{From: drawnNumber(r, 0, api.MaxId), To: drawnNumber(r, 0, api.MaxId), Bits: r.Uint32()}
	for range r.IntN(1 + r.IntN(20)) {
		w.Edges = append(w.Edges, drawnNumber(r, 1, 1024))
	}
	return w
}

func TestDrawnWitnesses(t *testing.T) {
	r := rand.New(rand.NewPCG(16, 1))
	for range 30000 {
		w := drawnWitness(r)
		tryEncode(t, w)
		if b := bytesOf(w); !tryDecode(t, b) {
			t.Fatalf("the model finds no witness in %v", head(b))
		}
	}
}

// Witnesses with any numbers, in which several may be wrong.
func TestDrawnFaults(t *testing.T) {
	r := rand.New(rand.NewPCG(16, 2))
	bad := append(noEdges(), 1, 5, 127, 128, 1024)
	for range 30000 {
		w := drawnWitness(r)
		if r.IntN(3) == 0 {
			w.From = bad[r.IntN(len(bad))]
		}
		if r.IntN(3) == 0 {
			w.To = bad[r.IntN(len(bad))]
		}
		for i := range w.Edges {
			if r.IntN(10) == 0 {
				w.Edges[i] = bad[r.IntN(len(bad))]
			}
		}
		if r.IntN(10) == 0 {
			w.Edges = append(w.Edges, edges(1020+r.IntN(6))...)
		}
		tryEncode(t, w)
	}
}

// Bytes of drawn witnesses with some put in, left out and turned.
func TestDrawnBytes(t *testing.T) {
	r := rand.New(rand.NewPCG(16, 3))
	few := []byte{0, 1, 127, 128, 129, 183, 255}
	seen := [2]int{}
	for range 300000 {
		b := bytesOf(drawnWitness(r))
		for range 1 + r.IntN(3) {
			at, x := r.IntN(len(b)), byte(r.IntN(256))
			if r.IntN(2) == 0 {
				x = few[r.IntN(len(few))]
			}
			switch r.IntN(4) {
			case 0:
				b = slices.Insert(b, at, x)
			case 1:
				b = slices.Delete(b, at, at+1)
			case 2:
				b[at] = x
			case 3:
				b[at] ^= 1 << r.IntN(8)
			}
			if len(b) == 0 {
				break
			}
		}
		if tryDecode(t, b) {
			seen[1]++
		} else {
			seen[0]++
		}
	}
	if seen[0] < 10000 || seen[1] < 10000 {
		t.Errorf("none and witnesses: %v", seen)
	}
}

// Bytes of any kind.
func TestAnyBytes(t *testing.T) {
	r := rand.New(rand.NewPCG(16, 4))
	for range 300000 {
		b := []byte{183}
		for range r.IntN(16) {
			b = append(b, byte(r.Uint32())>>r.IntN(8))
		}
		tryDecode(t, b)
	}
}

// Many bytes, wherever it shows that they are no witness's.
func TestManyBytes(t *testing.T) {
	for _, b := range []byte{0, 1, 127, 128, 129, 183, 255} {
		many := slices.Repeat([]byte{b}, 1<<20)
		for _, first := range [][]byte{{}, {183}, {183, 0}, {183, 0, 0}, {183, 0, 0, 0, 0, 0, 0}, {183, 0, 0, 0, 0, 0, 0, 1}} {
			wantNone(t, "many bytes", append(slices.Clone(first), many...))
		}
	}
}

// An answer hangs on the bytes alone, not on what was asked ahead of them.
func TestAnswersHangOnArgumentsAlone(t *testing.T) {
	r := rand.New(rand.NewPCG(16, 5))
	for range 2000 {
		w := drawnWitness(r)
		b := bytesOf(w)
		for range r.IntN(3) {
			witness.Decode(b[:r.IntN(len(b))])
			witness.Encode(api.Witness{From: -1})
			witness.Encode(drawnWitness(r))
		}
		wantWitness(t, w, b)
	}
}

// Where a panic is under way that isn't Decode's own, it isn't taken for one, and goes on.
func TestAnotherPanic(t *testing.T) {
	const other = "another panic"
	defer func() {
		if recover() != other {
			t.Error("P16.1: the other panic is gone")
		}
	}()
	defer func() {
		wantWitness(t, example(), bytesOf(example()))
		wantNone(t, "no bytes", nil)
	}()
	panic(other)
}
