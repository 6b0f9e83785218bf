package mat

import (
	"slices"

	"firkin/api"
	"firkin/gf"
)

// working is a working copy: a matrix whose rows may be changed, since nobody else has its cells.
type working struct {
	api.Matrix
}

// copyOf makes a working copy of a matrix.
func copyOf(m api.Matrix) working {
	m.Cells = slices.Clone(m.Cells)
	return working{m}
}

// besideIdentity makes a working copy of a matrix, with the identity in as many columns behind its own.
func besideIdentity(m api.Matrix) working {
	w := working{blank(m.Rows, 2*m.Cols)}
	for i := range m.Rows {
		cells := row(w.Matrix, i)
		copy(cells, row(m, i))
		cells[m.Cols+i] = 1
	}
	return w
}

// from tells the columns from this one on.
func (w working) from(col int) api.Matrix {
	told := blank(w.Rows, w.Cols-col)
	for i := range w.Rows {
		copy(row(told, i), row(w.Matrix, i)[col:])
	}
	return told
}

// swap puts each of two rows where the other one was.
func (w working) swap(i, j int) {
	kept := slices.Clone(row(w.Matrix, i))
	copy(row(w.Matrix, i), row(w.Matrix, j))
	copy(row(w.Matrix, j), kept)
}

// scale makes a row c times what it was.
func (w working) scale(i int, c uint8) {
	// The row is there once already: c less 1 times it is what it lacks.
	w.add(i, c^1, row(w.Matrix, i))
}

// add adds c times the cells, as many as there are columns, to a row.
func (w working) add(to int, c uint8, cells []uint8) {
	if c == 0 {
		return
	}
	sum, _ := gf.Add(row(w.Matrix, to), c, cells)
	copy(row(w.Matrix, to), sum)
}

// reduction goes on from a working copy, column by column. Its first rows lead: each has a 1 in a column in which all others have 0.
type reduction struct {
	working
	leading int // how many rows lead
}

// lead makes one row more lead, by this column, if one that doesn't has a cell there that isn't 0.
func (r *reduction) lead(col int) bool {
	found := r.find(col)
	if found == r.Rows {
		return false
	}
	r.swap(r.leading, found)
	leader := row(r.Matrix, r.leading)
	inverse, _ := gf.Inv(leader[col])
	r.scale(r.leading, inverse)
	for i := range r.Rows {
		if i != r.leading {
			r.add(i, row(r.Matrix, i)[col], leader)
		}
	}
	r.leading++
	return true
}

// find tells the first row that doesn't lead and has a cell in this column that isn't 0, or how many rows there are.
func (r *reduction) find(col int) int {
	at := r.leading
	for at < r.Rows && row(r.Matrix, at)[col] == 0 {
		at++
	}
	return at
}
