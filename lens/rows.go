package lens

import (
	"slices"

	"firkin/api"
)

// item is a leaf, or two items of the row ahead that are put together.
type item struct {
	weight uint64
	symbol int
}

// together stands in place of the symbol where items are put together: behind each symbol, as these items stand behind leaves of equal weight.
const together = api.MaxSyms

// leavesOf makes the first row, an item for each used symbol.
func leavesOf(often []uint32, order func(a, b item) int) []item {
	var leaves []item
	for symbol, n := range often {
		if n > 0 {
			leaves = append(leaves, item{uint64(n), symbol})
		}
	}
	slices.SortFunc(leaves, order)
	return leaves
}

// rowsOf makes as many rows as the limit says.
func rowsOf(leaves []item, limit int, order func(a, b item) int) [][]item {
	rows := [][]item{leaves}
	for len(rows) < limit {
		pairs := pairsOf(rows[len(rows)-1])
		rows = append(rows, merged(leaves, pairs, order))
	}
	return rows
}

// pairsOf puts each two items together; one that is left over is dropped.
func pairsOf(row []item) []item {
	pairs := make([]item, 0, len(row)/2)
	for two := range slices.Chunk(row, 2) {
		if len(two) == 2 {
			pairs = append(pairs, item{two[0].weight + two[1].weight, together})
		}
	}
	return pairs
}

// merged puts leaves and pairs in one row. Both are in order, pairs too, since the row that they are made of is: so nothing has to be sorted anew.
func merged(leaves, pairs []item, order func(a, b item) int) []item {
	row := make([]item, 0, len(leaves)+len(pairs))
	for _, pair := range pairs {
		for len(leaves) > 0 && order(leaves[0], pair) < 0 {
			row = append(row, leaves[0])
			leaves = leaves[1:]
		}
		row = append(row, pair)
	}
	return append(row, leaves...)
}

// count adds to each symbol's length how often it stands in the first items of the last row.
func count(lens []uint8, rows [][]item, first int) {
	// What is put together in the first items of a row are just the first items of the row ahead, since all stay in their order: so no lists of symbols need be kept.
	for _, row := range slices.Backward(rows) {
		pairs := 0
		for _, x := range row[:first] {
			if x.symbol == together {
				pairs++
			} else {
				lens[x.symbol]++
			}
		}
		first = 2 * pairs
	}
}
