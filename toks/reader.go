package toks

import (
	"firkin/api"
	"firkin/bits"
	"firkin/canon"
	"firkin/huff"
)

// reader takes pieces of the bits that it goes along.
type reader struct {
	*bits.Reader
	syms, fars *huff.Coder
}

// readerOf makes a reader with the codes whose lengths bytes begin with.
func readerOf(b []byte) (*reader, api.Errno) {
	r := &reader{Reader: bits.NewReader(b)}
	var e api.Errno
	if r.syms, e = r.code(api.Syms); e != api.OK {
		return nil, e
	}
	if r.fars, e = r.code(api.Fars); e != api.OK {
		return nil, e
	}
	return r, api.OK
}

// code takes the lengths of a code of n symbols, and tells its coder.
func (r *reader) code(n int) (*huff.Coder, api.Errno) {
	lengths, e := canon.Read(r.Reader, n)
	if e != api.OK {
		return nil, e
	}
	return huff.New(lengths)
}

// tokens takes all pieces, the end, too, and tells their tokens.
func (r *reader) tokens(most int) ([]api.Token, api.Errno) {
	var l []api.Token
	for {
		p, e := r.piece()
		if e != api.OK {
			return nil, e
		}
		if p == end() {
			return l, api.OK
		}
		t, e := Join(p)
		if e != api.OK {
			return nil, e
		}
		most -= max(t.Len, 1)
		if most < 0 {
			return nil, api.ErrLimit
		}
		l = append(l, t)
	}
}

// piece takes a piece.
func (r *reader) piece() (api.Piece, api.Errno) {
	var p api.Piece
	var e api.Errno
	if p.Sym, e = r.syms.Get(r.Reader); e != api.OK {
		return api.Piece{}, e
	}
	if !isMatch(p) {
		return p, api.OK
	}
	if p.Len, e = r.number(lenBits(p)); e != api.OK {
		return api.Piece{}, e
	}
	if p.Dist, e = r.fars.Get(r.Reader); e != api.OK {
		return api.Piece{}, e
	}
	if p.Far, e = r.number(p.Dist); e != api.OK {
		return api.Piece{}, e
	}
	return p, api.OK
}

// number takes a number of n bits.
func (r *reader) number(n int) (int, api.Errno) {
	x, e := r.Get(n)
	return int(x), e
}
