package ef

import (
	"firkin/api"
	"firkin/bits"
)

// byteBits is how many bits a byte has.
const byteBits = 8

// reader takes the parts of a row's numbers of the bits that it goes along.
type reader struct {
	*bits.Reader
	parts
}

// readParts tells the parts of the n numbers of the row whose bits bytes begin with, and how many bytes these take.
// A reader of bits copies its bytes, and many rows may stand behind this one: so it is handed no more than this one may take.
// Only where these end too soon it is handed all: a 1 far behind may be the end of bits 0.
func readParts(bound, n int, b []byte) (parts, int, api.Errno) {
	if most := bytesMost(bound, n); most < len(b) {
		if p, long, e := readAll(bound, n, b[:most]); e != api.ErrShort {
			return p, long, e
		}
	}
	return readAll(bound, n, b)
}

// bytesMost tells how many bytes the bits of a row of n numbers take at most.
func bytesMost(bound, n int) int {
	w := lowBits(bound, n)
	zeros := bound >> w
	return (n*w + zeros + n + byteBits - 1) / byteBits
}

// readAll tells what readParts does, with a reader of all the bytes.
func readAll(bound, n int, b []byte) (parts, int, api.Errno) {
	r := &reader{Reader: bits.NewReader(b), parts: parts{width: lowBits(bound, n)}}
	if e := r.takeLow(n); e != api.OK {
		return parts{}, 0, e
	}
	if e := r.takeHigh(bound, n); e != api.OK {
		return parts{}, 0, e
	}
	if e := r.fill(); e != api.OK {
		return parts{}, 0, e
	}
	return r.parts, len(b) - r.Left()/byteBits, api.OK
}

// takeLow takes the low bits of n numbers.
func (r *reader) takeLow(n int) api.Errno {
	for range n {
		low, e := r.Get(r.width)
		if e != api.OK {
			return e
		}
		r.low = append(r.low, int(low))
	}
	return api.OK
}

// takeHigh takes what is above the low bits of n numbers, each of which must be above the one ahead, and below the bound.
func (r *reader) takeHigh(bound, n int) api.Errno {
	high, ahead := 0, -1
	for i := range n {
		more, e := r.Unary()
		if e != api.OK {
			return e
		}
		high += more
		r.high = append(r.high, high)
		id := r.number(i)
		switch {
		case id <= ahead:
			return api.ErrForm
		case id >= bound:
			return api.ErrRange
		}
		ahead = id
	}
	return api.OK
}

// fill takes the bits up to a whole byte, which must be 0.
func (r *reader) fill() api.Errno {
	x, e := r.Get(r.Left() % byteBits)
	if x != 0 {
		return api.ErrForm
	}
	return e
}
