package canon

import (
	"firkin/api"
	"firkin/bits"
)

const (
	lengthBits = 4            // bits of a length
	rowBits    = 6            // bits of how many symbols a row has
	maxRow     = 1 << rowBits // symbols of a row
)

// item is what stands in one place of lengths as bits: the length of one symbol, or a row of symbols without one.
type item struct {
	length  uint8
	symbols int
}

// isRow tells whether an item is a row.
func (x item) isRow() bool { return x.length == 0 }

// itemOf tells the item that lengths begin with; there is one.
func itemOf(lens []uint8) item {
	if lens[0] > 0 {
		return item{lens[0], 1}
	}
	n := 1
	for n < min(len(lens), maxRow) && lens[n] == 0 {
		n++
	}
	return item{0, n}
}

// write puts an item behind what a writer has.
func (x item) write(w *bits.Writer) {
	w.Put(uint64(x.length), lengthBits)
	if x.isRow() {
		w.Put(uint64(x.symbols-1), rowBits)
	}
}

// readItem takes an item.
func readItem(r *bits.Reader) (item, api.Errno) {
	length, e := r.Get(lengthBits)
	if e != api.OK {
		return item{}, e
	}
	if length > 0 {
		return item{uint8(length), 1}, api.OK
	}
	n, e := r.Get(rowBits)
	if e != api.OK {
		return item{}, e
	}
	return item{0, int(n) + 1}, api.OK
}
