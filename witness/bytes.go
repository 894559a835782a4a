package witness

const (
	sevenBits = 7
	// more: what is added to each byte of a number but the last.
	more = 1 << sevenBits

	byteBits = 8
	allBits  = 32 // of a cost
)

// appendNumber: b, and behind it a number from 0 on, which is written in as few bytes
// as may be.
func appendNumber(b []byte, n int) []byte {
	for n >= more {
		b = append(b, byte(n%more+more))
		n >>= sevenBits
	}
	return append(b, byte(n))
}

// appendBits: b, and behind it the four bytes, the lowest first.
func appendBits(b []byte, bits uint32) []byte {
	for shift := 0; shift < allBits; shift += byteBits {
		b = append(b, byte(bits>>shift))
	}
	return b
}
