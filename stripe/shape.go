package stripe

import (
	"iter"

	"firkin/api"
)

const sumBytes = 4 // behind each chunk

// shape says how stripes are put together.
//
// A lane is what stands at one place of all stripes: the chunks there, one behind the other. Parity is reckoned byte by byte, so that lanes have it as chunks do; and one call for long lanes costs far less than one for each stripe.
type shape struct {
	k, m  int // chunks of data, and of parity
	chunk int // bytes of a chunk
}

// may tells whether the shape may be for n bytes.
func (s shape) may(n int) bool {
	// Not by k and m together, which may be beyond an int.
	return s.k >= 1 && s.m >= 0 && s.m <= api.MaxParts-s.k &&
		s.chunk >= 1 && s.chunk <= api.MaxChunk &&
		n >= 0 && n <= api.MaxBody
}

// parts tells how many chunks a stripe has.
func (s shape) parts() int { return s.k + s.m }

// room tells how many bytes a stripe has room for.
func (s shape) room() int { return s.k * s.chunk }

// laidBytes tells how many bytes a stripe has laid out.
func (s shape) laidBytes() int { return s.parts() * (s.chunk + sumBytes) }

// stripes tells how many stripes n bytes have.
func (s shape) stripes(n int) int { return (n + s.room() - 1) / s.room() }

// lanes tells the k lanes of data, with padding.
func (s shape) lanes(b []byte) [][]byte {
	lanes := make([][]byte, s.k)
	for i := range lanes {
		lanes[i] = make([]byte, s.stripes(len(b))*s.chunk)
	}
	for at := 0; at < len(b); at += s.chunk {
		i := at / s.chunk
		copy(lanes[i%s.k][i/s.k*s.chunk:][:s.chunk], b[at:])
	}
	return lanes
}

// chunks goes along the chunks of one lane or more, stripe by stripe.
func (s shape) chunks(lanes ...[]byte) iter.Seq[[]byte] {
	return func(yield func([]byte) bool) {
		for at := 0; at < len(lanes[0]); at += s.chunk {
			for _, lane := range lanes {
				if !yield(lane[at : at+s.chunk]) {
					return
				}
			}
		}
	}
}
