package check_test

import (
	"math"
	"testing"

	"bramble/api"
	"bramble/check"
)

// others: numbers that aren't n, some that are alike in their lowest bits.
func others(n int) []int {
	list := []int{n + 1, n - 1, -n - 1, ^n, n + 1<<31, n + 1<<32, n - 1<<32, n + math.MaxInt, math.MinInt, math.MinInt + n, math.MaxInt, -1, 1<<32 - 1}
	for _, m := range []int{0, 1, 5, 9, 300, api.MaxId} {
		if m != n {
			list = append(list, m)
		}
	}
	for at := range 64 {
		list = append(list, n^1<<at)
	}
	return list
}

func otherBits(bits uint32) []uint32 {
	list := []uint32{bits + 1, bits - 1, ^bits}
	for _, b := range []uint32{0, 1, one, minus0, plusInf, 0x7fc00000, 0xffffffff} {
		if b != bits {
			list = append(list, b)
		}
	}
	for at := range 32 {
		list = append(list, bits^1<<at)
	}
	return list
}

// claims: witnesses of town, accepted and refused for each reason, the ends of numbers among them.
func claims() []api.Witness {
	return append(told(), api.Witness{From: api.MaxId, To: api.MaxId, Bits: 0xffffffff}, api.Witness{To: api.MaxId}, api.Witness{From: api.MaxId, Bits: one, Edges: []int{1024}})
}

// From, to and bits each turned alone and all together, whatever is wrong with the walk.
func TestOtherClaims(t *testing.T) {
	g := town()
	for _, w := range claims() {
		wantAccepted := func() {
			t.Helper()
			place, errno := g.judged(w)
			wantCheck(t, g, w, place, errno)
		}
		wantAccepted()
		for _, v := range others(w.From) {
			wantClaim(t, g, v, w.To, w.Bits, w)
		}
		for _, v := range others(w.To) {
			wantClaim(t, g, w.From, v, w.Bits, w)
		}
		for _, bits := range otherBits(w.Bits) {
			wantClaim(t, g, w.From, w.To, bits, w)
			wantClaim(t, g, w.From+1, w.To, bits, w)
			wantClaim(t, g, w.From, w.To-1, bits, w)
			wantClaim(t, g, math.MinInt, math.MaxInt, bits, w)
		}
		if w.From != w.To {
			wantClaim(t, g, w.To, w.From, w.Bits, w)
		}
		wantClaim(t, g, w.From+1, w.To+1, w.Bits+1, w)
		wantAccepted()
	}
}

// The claim isn't what the walk is held against: if it is that of the bytes, the walk's own faults are told.
func TestRightClaims(t *testing.T) {
	g := town()
	seen := map[api.Errno]bool{}
	for _, w := range claims() {
		place, errno := g.judged(w)
		seen[errno] = true
		if at, e := check.Claim(g, w.From, w.To, w.Bits, bytesOf(t, w)); at != place || e != errno {
			t.Fatalf("P17.1: Claim of %v: %d, %d, not %d, %d", w, at, e, place, errno)
		}
	}
	for _, errno := range []api.Errno{api.OK, api.ErrNoVertex, api.ErrNoEdge, api.ErrBroken, api.ErrEnd, api.ErrCost} {
		if !seen[errno] {
			t.Errorf("no claim is for %d", errno)
		}
	}
}

// What the walk's cost would be is no reason to accept another claim, and what is claimed none to accept another walk.
func TestClaimOfWhatIs(t *testing.T) {
	g := town()
	w := api.Witness{From: 0, To: 1, Bits: two, Edges: []int{1}} // costs 1
	wantClaim(t, g, 0, 1, one, w)
	wantCheck(t, g, w, 0, api.ErrCost)
	w = api.Witness{From: 0, To: 0, Bits: one, Edges: []int{1}} // leads to 1
	wantClaim(t, g, 0, 1, one, w)
	wantCheck(t, g, w, 0, api.ErrEnd)
	w = api.Witness{From: 0, To: 0, Bits: minus0} // costs +0
	wantClaim(t, g, 0, 0, 0, w)
	wantCheck(t, g, w, 0, api.ErrCost)
}

// Bytes that are no witness's are told ahead of any claim.
func TestClaimOfNone(t *testing.T) {
	g := town()
	b := bytesOf(t, told()[2])
	for _, none := range [][]byte{nil, {}, {183}, {0}, b[:len(b)-1], append(b, 0), b[1:]} {
		for _, v := range append(others(0), 0) {
			for _, bits := range append(otherBits(one), one) {
				if place, errno := check.Claim(g, v, 1, bits, none); place != 0 || errno != api.ErrWitness {
					t.Fatalf("P17.1: Claim(%d, 1, %08x, %v): %d, %d, not ErrWitness", v, bits, none, place, errno)
				}
				if place, errno := check.Claim(g, 0, v, bits, none); place != 0 || errno != api.ErrWitness {
					t.Fatalf("P17.1: Claim(0, %d, %08x, %v): %d, %d, not ErrWitness", v, bits, none, place, errno)
				}
			}
		}
	}
}
