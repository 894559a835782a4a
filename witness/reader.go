package witness

import "bramble/api"

// reader takes bytes one behind the other. Where they are no witness's it gives up by
// a panic, so that nobody needs to ask behind each of them how it went; who calls it
// recovers.
type reader struct {
	rest []byte
}

func giveUp() { panic(api.ErrWitness) }

// witness: the one whose bytes all these are.
func (r *reader) witness() api.Witness {
	if r.next() != mark {
		giveUp()
	}
	var w api.Witness
	w.From = r.number(0, api.MaxId)
	w.To = r.number(0, api.MaxId)
	w.Bits = r.bits()
	for range r.number(0, api.MaxWalk) {
		w.Edges = append(w.Edges, r.number(leastEdge, api.MaxEdges))
	}
	if len(r.rest) > 0 {
		giveUp()
	}
	return w
}

// next: the byte that comes next.
func (r *reader) next() byte {
	if len(r.rest) == 0 {
		giveUp()
	}
	b := r.rest[0]
	r.rest = r.rest[1:]
	return b
}

// number: one from least to most, in as few bytes as may be.
func (r *reader) number(least, most int) int {
	n := 0
	for shift := 0; ; shift += sevenBits {
		b := r.next()
		part := int(b % more)
		// Asked ahead of the shift, since it would push out of an int what is too great.
		if part > most>>shift {
			giveUp()
		}
		n += part << shift
		if b >= more {
			continue
		}
		// A last byte of 0 adds nothing, so without it the number would be shorter.
		if b == 0 && shift > 0 || n < least || n > most {
			giveUp()
		}
		return n
	}
}

// bits: the four bytes of a cost.
func (r *reader) bits() uint32 {
	var bits uint32
	for shift := 0; shift < allBits; shift += byteBits {
		bits |= uint32(r.next()) << shift
	}
	return bits
}
