// Package weight is layer 1: weights and costs: see shared/doc/01-weight.md.
package weight

import (
	"math"
	"strconv"
	"strings"

	"bramble/api"
)

const (
	infBits       uint32 = 0x7f800000 // +Inf: of all costs the greatest bits
	nanBits       uint32 = 0x7fc00000 // stands for every NaN, so that no NaN's payload is told
	minusZeroBits uint32 = 0x80000000
)

// digits: of a text, four bits each.
const digits = 8

// Admit: the weight of these bits.
func Admit(bits uint32) (float32, api.Errno) {
	if bits == minusZeroBits {
		return 0, api.OK
	}
	// The sign is the highest bit, so one bound keeps out the numbers below 0 too.
	if bits >= infBits {
		return 0, api.ErrBadWeight
	}
	return math.Float32frombits(bits), api.OK
}

// Bits: the bits of c.
func Bits(c float32) uint32 {
	if isNaN(c) {
		return nanBits
	}
	return math.Float32bits(c)
}

// Cost: is c a cost?
func Cost(c float32) bool {
	return Bits(c) <= infBits
}

// Add: the rounded sum.
func Add(a, w float32) float32 {
	return asCost(a) + asCost(w)
}

// Fold: added from the left.
func Fold(ws []float32) float32 {
	var sum float32
	for _, w := range ws {
		sum = Add(sum, w)
	}
	return sum
}

// Before: is a less than b?
func Before(a, b float32) bool {
	return a < b
}

// Text: the bits as hexadecimal digits.
func Text(c float32) string {
	s := strconv.FormatUint(uint64(Bits(c)), 16)
	return strings.Repeat("0", digits-len(s)) + s
}

// Read: the weight that is written so.
func Read(s string) (float32, api.Errno) {
	if len(s) != digits {
		return 0, api.ErrForm
	}
	var bits uint32
	for i := range digits {
		d, ok := digit(s[i])
		if !ok {
			return 0, api.ErrForm
		}
		bits = bits<<4 | d
	}
	return Admit(bits)
}

// digit: what a hexadecimal digit means. The library's readers take A to F, signs and more, which no text of a weight has.
func digit(c byte) (uint32, bool) {
	switch {
	case '0' <= c && c <= '9':
		return uint32(c - '0'), true
	case 'a' <= c && c <= 'f':
		return uint32(c-'a') + 10, true
	}
	return 0, false
}

// asCost: what c counts as.
func asCost(c float32) float32 {
	if c == 0 {
		return 0 // -0 is equal to 0 and would keep its sign
	}
	if !Cost(c) {
		return math.Float32frombits(infBits)
	}
	return c
}

func isNaN(c float32) bool {
	return c != c // a NaN alone isn't equal to itself
}
