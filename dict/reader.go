package dict

import (
	"firkin/api"
	"firkin/nums"
)

const (
	maxBucketBytes = 2000
	numberBytes    = 10 // bytes of a number at most
)

// reader takes a dictionary of bytes. A cursor copies its bytes, and far more may stand behind, so each one is handed no more than what it may take.
type reader struct {
	*Dict
	b  []byte
	at int // how many bytes are taken
}

// read takes the dictionary.
func (r *reader) read() api.Errno {
	n, e := r.counts(1, api.MaxTerms)
	if e != api.OK {
		return e
	}
	texts := n[0]
	longs, e := r.counts((texts+r.size-1)/r.size, maxBucketBytes)
	if e != api.OK {
		return e
	}
	for _, long := range longs {
		if e := r.bucket(min(r.size, texts-len(r.row)), long); e != api.OK {
			return e
		}
	}
	return api.OK
}

// counts takes n numbers, each at most so much.
func (r *reader) counts(n, most int) ([]int, api.Errno) {
	c := nums.New(r.next(n * numberBytes))
	var told []int
	for range n {
		told = append(told, c.Int(most))
		if e := c.Err(); e != api.OK {
			return nil, e
		}
	}
	r.at += c.At()
	return told, api.OK
}

// bucket takes a bucket of n texts, which has so many bytes.
func (r *reader) bucket(n, long int) api.Errno {
	of := r.next(long)
	if len(of) < long {
		return api.ErrShort
	}
	b := &bucket{Cursor: nums.New(of), ahead: r.last()}
	texts := row{b.first()}
	for len(texts) < n && b.Err() == api.OK {
		texts = append(texts, b.further())
	}
	if e := b.End(); e != api.OK {
		return e
	}
	r.firsts = append(r.firsts, texts[0])
	r.row = append(r.row, texts...)
	r.at += long
	return api.OK
}

// last tells the last text that is taken, or the empty one.
func (r *reader) last() string {
	text, _ := r.At(r.Len() - 1)
	return text
}

// next tells the next n bytes, or fewer, where these end.
func (r *reader) next(n int) []byte {
	left := r.b[r.at:]
	return left[:min(n, len(left))]
}
