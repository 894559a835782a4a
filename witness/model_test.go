package witness_test

import (
	"bytes"
	"math/big"
	"slices"
	"strconv"
	"testing"

	"bramble/api"
	"bramble/witness"
)

// numbered: the bytes of a number of any size, from its binary digits, of which the lowest seven go first.
func numbered(n *big.Int) []byte {
	var b []byte
	digits := n.Text(2)
	for len(digits) > 7 {
		split := len(digits) - 7
		b = append(b, ofDigits("1"+digits[split:]))
		digits = digits[:split]
	}
	return append(b, ofDigits(digits))
}

func ofDigits(digits string) byte {
	b, err := strconv.ParseUint(digits, 2, 8)
	if err != nil {
		panic(err)
	}
	return byte(b)
}

func number(n int) []byte { return numbered(big.NewInt(int64(n))) }

// where each piece of a witness's bytes stands among pieces; the edges go from atEdges on.
const (
	atMark, atFrom, atTo, atBits, atCount, atEdges = 0, 1, 2, 3, 4, 5
)

// pieces: the bytes of w, apart from each other.
func pieces(w api.Witness) [][]byte {
	bits := []byte{byte(w.Bits), byte(w.Bits >> 8), byte(w.Bits >> 16), byte(w.Bits >> 24)}
	list := [][]byte{{183}, number(w.From), number(w.To), bits, number(len(w.Edges))}
	for _, e := range w.Edges {
		list = append(list, number(e))
	}
	return list
}

func joined(list [][]byte) []byte { return bytes.Join(list, nil) }

func bytesOf(w api.Witness) []byte { return joined(pieces(w)) }

// with: the bytes of w, with others at one piece's place.
func with(w api.Witness, place int, piece ...byte) []byte {
	list := pieces(w)
	list[place] = piece
	return joined(list)
}

// errorOf: what Encode must answer beside no bytes.
func errorOf(w api.Witness) api.Errno {
	if len(w.Edges) > 1024 {
		return api.ErrLong
	}
	for _, v := range []int{w.From, w.To} {
		if v < 0 || v > 2147483647 {
			return api.ErrRange
		}
	}
	for _, e := range w.Edges {
		if e < 1 || e > 1024 {
			return api.ErrRange
		}
	}
	return api.OK
}

// read: what the first number of b is worth, however it is written; and what is behind it. None has more than five bytes.
func read(b []byte) (int, []byte, bool) {
	worth := 0
	for i := range min(5, len(b)) {
		worth += int(b[i]&127) << (7 * i)
		if b[i] < 128 {
			return worth, b[i+1:], true
		}
	}
	return 0, nil, false
}

// meant: the witness whose bytes these are, if there is one: what stands there is read with no care, and has just these bytes.
func meant(b []byte) (api.Witness, bool) {
	var w api.Witness
	if len(b) == 0 {
		return w, false
	}
	var ok bool
	rest := b[1:]
	for _, n := range []*int{&w.From, &w.To} {
		if *n, rest, ok = read(rest); !ok {
			return api.Witness{}, false
		}
	}
	if len(rest) < 5 {
		return api.Witness{}, false
	}
	w.Bits = uint32(rest[0]) + uint32(rest[1])*256 + uint32(rest[2])*65536 + uint32(rest[3])*16777216
	_, rest, ok = read(rest[4:]) // so many as there are, if the bytes are right
	for ok && len(rest) > 0 {
		var e int
		e, rest, ok = read(rest)
		w.Edges = append(w.Edges, e)
	}
	if !ok || errorOf(w) != api.OK || !bytes.Equal(bytesOf(w), b) {
		return api.Witness{}, false
	}
	return w, true
}

func same(a, b api.Witness) bool {
	return a.From == b.From && a.To == b.To && a.Bits == b.Bits && slices.Equal(a.Edges, b.Edges)
}

// tryEncode: Encode of w against the chapter's words, and Decode of what it answers.
func tryEncode(t *testing.T, w api.Witness) {
	t.Helper()
	b, errno := witness.Encode(w)
	want := errorOf(w)
	if errno != want || want != api.OK && len(b) != 0 {
		t.Fatalf("P16.1: Encode(%v): %v, %d, not %d", w, b, errno, want)
	}
	if want != api.OK {
		return
	}
	if !bytes.Equal(b, bytesOf(w)) {
		t.Fatalf("P16.1: Encode(%v): %v, not %v", w, b, bytesOf(w))
	}
	if again, errno := witness.Decode(b); errno != api.OK || !same(again, w) {
		t.Fatalf("P16.1: Decode(Encode(%v)): %v, %d", w, again, errno)
	}
}

// tryDecode: Decode of b against the chapter's words, and Encode of what it answers. Is there a witness?
func tryDecode(t *testing.T, b []byte) bool {
	t.Helper()
	w, errno := witness.Decode(b)
	want, ok := meant(b)
	if !ok {
		if errno != api.ErrWitness || !same(w, api.Witness{}) {
			t.Fatalf("P16.1: Decode(%v): %v, %d, not ErrWitness", head(b), w, errno)
		}
		return false
	}
	if errno != api.OK || !same(w, want) {
		t.Fatalf("P16.1: Decode(%v): %v, %d, not %v", head(b), w, errno, want)
	}
	if again, errno := witness.Encode(w); errno != api.OK || !bytes.Equal(again, b) {
		t.Fatalf("P16.1: Encode(Decode(%v)): %v, %d", head(b), again, errno)
	}
	return true
}

// wantNone: these bytes are no witness's, whatever the model says of them.
func wantNone(t *testing.T, what string, b []byte) {
	t.Helper()
	if w, errno := witness.Decode(b); errno != api.ErrWitness || !same(w, api.Witness{}) {
		t.Fatalf("P16.1: %s: Decode(%v): %v, %d, not ErrWitness", what, head(b), w, errno)
	}
	if _, ok := meant(b); ok {
		t.Fatalf("%s: the model finds a witness in %v", what, head(b))
	}
}

// wantWitness: these bytes are w's, whatever the model says of them.
func wantWitness(t *testing.T, w api.Witness, b []byte) {
	t.Helper()
	if got, errno := witness.Encode(w); errno != api.OK || !bytes.Equal(got, b) {
		t.Fatalf("P16.1: Encode(%v): %v, %d, not %v", w, got, errno, head(b))
	}
	if got, errno := witness.Decode(b); errno != api.OK || !same(got, w) {
		t.Fatalf("P16.1: Decode(%v): %v, %d, not %v", head(b), got, errno, w)
	}
	if !tryDecode(t, b) {
		t.Fatalf("the model finds no witness in %v", head(b))
	}
	tryEncode(t, w)
}

// wantError: of Encode, whatever the model says.
func wantError(t *testing.T, w api.Witness, want api.Errno) {
	t.Helper()
	if b, errno := witness.Encode(w); errno != want || len(b) != 0 {
		t.Fatalf("P16.1: Encode(%v): %v, %d, not %d", w, head(b), errno, want)
	}
	tryEncode(t, w)
}

// head: as much of b as can be told.
func head(b []byte) []byte { return b[:min(40, len(b))] }

// edges: a list of n edges, with numbers from 1 to MaxEdges.
func edges(n int) []int {
	var list []int
	for i := range n {
		list = append(list, 1+i*37%1024)
	}
	return list
}
