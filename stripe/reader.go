package stripe

import (
	"bytes"
	"slices"

	"firkin/api"
	"firkin/crc"
	"firkin/rs"
)

// reader has what was laid out in a shape, as it stands there, till it is mended.
type reader struct {
	shape
	all  [][]byte // the lanes, those of parity, too
	good []bool   // of each chunk, through all stripes
}

// readerOf makes a reader of whole stripes.
func readerOf(s shape, b []byte) *reader {
	r := &reader{shape: s, all: make([][]byte, s.parts())}
	for summed := range slices.Chunk(b, s.chunk+sumBytes) {
		lane := &r.all[len(r.good)%s.parts()]
		*lane = append(*lane, summed[:s.chunk]...)
		_, e := crc.Cut(summed)
		r.good = append(r.good, e == api.OK)
	}
	return r
}

// mend puts what the good chunks say in place of those that aren't.
// It goes by runs of stripes in which the same places are good: of one run all stripes are as damaged, so that the first error is told all the same.
func (r *reader) mend() api.Errno {
	count := len(r.good) / r.parts()
	for from := 0; from < count; {
		to := from + 1
		for to < count && slices.Equal(r.goodOf(to), r.goodOf(from)) {
			to++
		}
		if e := r.mendRun(from, to); e != api.OK {
			return e
		}
		from = to
	}
	return api.OK
}

// mendRun mends the stripes of a run.
func (r *reader) mendRun(from, to int) api.Errno {
	good := r.goodOf(from)
	parts := make([][]byte, len(r.all))
	for i, lane := range r.all {
		parts[i] = lane[from*r.chunk : to*r.chunk]
	}
	mended, e := rs.Mend(r.k, r.m, parts, good)
	if e != api.OK {
		return e
	}
	for i, part := range parts {
		if good[i] && !bytes.Equal(part, mended[i]) {
			return api.ErrForm
		}
		copy(part, mended[i])
	}
	return api.OK
}

// goodOf tells which chunks of a stripe are good.
func (r *reader) goodOf(stripe int) []bool {
	return r.good[stripe*r.parts():][:r.parts()]
}

// data tells the chunks of data, one behind the other.
func (r *reader) data() []byte {
	var b []byte
	for c := range r.chunks(r.all[:r.k]...) {
		b = append(b, c...)
	}
	return b
}

// bad tells the numbers of the chunks that aren't good.
func (r *reader) bad() []int {
	var numbers []int
	for i, good := range r.good {
		if !good {
			numbers = append(numbers, i)
		}
	}
	return numbers
}
