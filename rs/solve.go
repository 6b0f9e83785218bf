package rs

import (
	"firkin/api"
	"firkin/gf"
	"firkin/mat"
)

// dataOf makes the data of which these chunks, as many as there are data, are the parts at these rising places.
func dataOf(code api.Matrix, places []int, chunks [][]byte) [][]byte {
	data, lost := spread(code.Cols, places, chunks)
	// For each lost one a parity is there. These alone are reckoned back, so that it costs by how many are lost.
	had := len(data) - len(lost)
	rows := make([]int, len(lost))
	for i := range rows {
		rows[i] = places[had+i] - len(data)
	}
	code, _ = mat.Pick(code, rows...)
	// The lost data are 0 so far: what the parities lack is what the lost data make of them.
	lacks := times(code, data)
	for i, lack := range lacks {
		lacks[i], _ = gf.Add(lack, 1, chunks[had+i])
	}
	back, _ := mat.Inverse(columns(code, lost))
	for i, chunk := range times(back, lacks) {
		data[lost[i]] = chunk
	}
	return data
}

// spread lays copies of the chunks at those of the places that the k data have, zeros at the lost ones.
func spread(k int, places []int, chunks [][]byte) (data [][]byte, lost []int) {
	data = make([][]byte, k)
	had := 0
	for i := range data {
		data[i] = make([]byte, len(chunks[0]))
		if places[had] == i {
			copy(data[i], chunks[had])
			had++
		} else {
			lost = append(lost, i)
		}
	}
	return data, lost
}

// columns makes a matrix of the columns of these numbers.
func columns(m api.Matrix, cols []int) api.Matrix {
	picked := api.Matrix{Rows: m.Rows, Cols: len(cols)}
	for i := range m.Rows {
		for _, j := range cols {
			picked.Cells = append(picked.Cells, row(m, i)[j])
		}
	}
	return picked
}

// row tells the cells of a row; they are the matrix's own.
func row(m api.Matrix, i int) []uint8 {
	return m.Cells[i*m.Cols : (i+1)*m.Cols]
}
