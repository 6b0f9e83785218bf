package toks

import (
	"firkin/api"
	"firkin/bits"
	"firkin/canon"
	"firkin/huff"
	"firkin/lens"
)

// writer writes pieces behind the bits that it has.
type writer struct {
	bits.Writer
	syms, fars *huff.Coder
}

// writerOf makes a writer with the codes for symbols that are so often; their lengths are its first bits.
func writerOf(syms, fars []uint32) *writer {
	w := new(writer)
	w.syms = w.putCode(syms)
	w.fars = w.putCode(fars)
	return w
}

// putCode puts the lengths of a code behind, and tells its coder. The longest words leave room for far more symbols than there are, so nothing is refused.
func (w *writer) putCode(often []uint32) *huff.Coder {
	lengths, _ := lens.Lens(often, api.MaxBits)
	canon.Write(&w.Writer, lengths)
	c, _ := huff.New(lengths)
	return c
}

// putPiece puts a piece behind; its symbols have words.
func (w *writer) putPiece(p api.Piece) {
	w.syms.Put(&w.Writer, p.Sym)
	if isMatch(p) {
		w.Put(uint64(p.Len), lenBits(p))
		w.fars.Put(&w.Writer, p.Dist)
		w.Put(uint64(p.Far), p.Dist)
	}
}
