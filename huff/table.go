package huff

import (
	"slices"

	"firkin/api"
	"firkin/canon"
)

// table tells the words of a code by their symbols, and the symbols by the bits that begin with their words.
type table struct {
	lens   []uint8  // of each symbol, the length of its word
	words  []uint16 // of each symbol, its word as a number
	syms   []int    // those that have a word, in the order of the words
	starts []uint16 // of each of these, the least bits that begin with its word
}

// tableOf makes the table of lengths, and refuses those that aren't right.
func tableOf(lens []uint8) (table, api.Errno) {
	words, e := canon.Codes(lens)
	if e != api.OK {
		return table{}, e
	}
	t := table{lens: slices.Clone(lens), words: words}
	// Words are made in this order, each above the one ahead: so the starts rise, too.
	for length := 1; length <= api.MaxBits; length++ {
		for sym := range lens {
			if t.length(sym) == length {
				t.syms = append(t.syms, sym)
				t.starts = append(t.starts, words[sym]<<(api.MaxBits-length))
			}
		}
	}
	return t, api.OK
}

// length tells the length of a symbol's word; 0, if it has none.
func (t *table) length(sym int) int {
	if sym < 0 || sym >= len(t.lens) {
		return 0
	}
	return int(t.lens[sym])
}

// find tells the symbol whose word the next bits begin with; so many of these are there, bits 0 stand in place of the others.
func (t *table) find(next uint64, there int) (int, api.Errno) {
	at, same := slices.BinarySearch(t.starts, uint16(next))
	if !same {
		// If they begin with a word at all, it is the last one that starts below them.
		at--
	}
	if at < 0 {
		return noSymbol, api.ErrCode
	}
	sym := t.syms[at]
	length := t.length(sym)
	switch {
	case next>>(api.MaxBits-length) != uint64(t.words[sym]):
		return noSymbol, api.ErrCode
	case length > there:
		return noSymbol, api.ErrShort
	}
	return sym, api.OK
}
