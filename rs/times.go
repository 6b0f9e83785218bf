package rs

import (
	"firkin/api"
	"firkin/gf"
)

// times makes for each row of the matrix the sum of its cells times the chunks, of which there are as many as columns.
func times(m api.Matrix, chunks [][]byte) [][]byte {
	var known products
	made := make([][]byte, m.Rows)
	for i := range made {
		made[i] = make([]byte, len(chunks[0]))
		for j, c := range row(m, i) {
			known.add(made[i], c, chunks[j])
		}
	}
	return made
}

// products has the rows of products that were asked for. Each is made once, since it costs as much as a chunk of 256 bytes, and chunks may be far shorter.
type products [256]*[256]uint8

// add adds c times the bytes to as many others.
func (p *products) add(to []byte, c uint8, b []byte) {
	if p[c] == nil {
		made := gf.Row(c)
		p[c] = &made
	}
	by := p[c]
	for i, x := range b {
		to[i] ^= by[x]
	}
}
