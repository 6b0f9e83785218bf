package bits

import (
	"math/bits"
	"slices"
)

// byteBits is how many bits a byte has.
const byteBits = 8

// row is a row of bits, of each byte the highest first.
type row struct {
	bytes []byte // as many as the bits need; behind the last bit they have bits 0
	size  int    // how many bits
}

// rowOf tells the row of all the bits of bytes.
func rowOf(b []byte) row {
	return row{bytes: slices.Clone(b), size: byteBits * len(b)}
}

// widen puts n bits 0 behind.
func (r *row) widen(n int) {
	r.size += n
	needed := (r.size + byteBits - 1) / byteBits
	r.bytes = append(r.bytes, make([]byte, needed-len(r.bytes))...)
}

// add puts x behind, in n bits; it has no more.
func (r *row) add(x uint64, n int) {
	at := r.size
	r.widen(n)
	for n > 0 {
		free := byteBits - at%byteBits
		k := min(n, free)
		n -= k
		// The bits above these k stand in an earlier byte, and are lost as this is a byte.
		r.bytes[at/byteBits] |= byte(x>>n) << (free - k)
		at += k
	}
}

// number tells the n bits from the place at on; all are there.
func (r *row) number(at, n int) uint64 {
	var x uint64
	for n > 0 {
		behind := byteBits - at%byteBits
		k := min(n, behind)
		x = x<<k | uint64(r.bytes[at/byteBits])>>(behind-k)&(1<<k-1)
		at += k
		n -= k
	}
	return x
}

// zerosFrom tells how many bits 0 stand from the place at on, up to a 1 or to the end.
func (r *row) zerosFrom(at int) int {
	n := 0
	for at+n < r.size {
		gone := (at + n) % byteBits
		rest := r.bytes[(at+n)/byteBits] << gone
		if rest != 0 {
			return n + bits.LeadingZeros8(rest)
		}
		n += byteBits - gone
	}
	return r.size - at
}
