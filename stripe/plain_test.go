package stripe

import (
	"bytes"
	"encoding/binary"
	"hash/crc32"
	"math/big"
	"math/rand"
	"slices"
	"sync"

	"firkin/api"
)

// form is a shape, as the tests hand it in.
type form struct{ k, m, chunk int }

// parts tells how many chunks a stripe has.
func (f form) parts() int { return f.k + f.m }

// room tells how many bytes a stripe has room for.
func (f form) room() int { return f.k * f.chunk }

// chance tells numbers that look like chance, the same in each run.
func chance(seed int64) *rand.Rand { return rand.New(rand.NewSource(seed)) }

// sample tells n bytes, others for each seed, none of them 0.
func sample(seed int64, n int) []byte {
	r := chance(seed)
	b := make([]byte, n)
	for i := range b {
		b[i] = byte(1 + r.Intn(255))
	}
	return b
}

// summed tells bytes with their sum behind them, as chapter 1 tells it.
func summed(b []byte) []byte {
	return binary.LittleEndian.AppendUint32(slices.Clone(b), crc32.ChecksumIEEE(b))
}

// isSummed tells whether the last four bytes are the sum of those ahead.
func isSummed(b []byte) bool { return bytes.Equal(b, summed(b[:len(b)-4])) }

// plainMul tells the product of two elements, as chapter 4 tells it.
func plainMul(a, b byte) byte {
	long := 0
	for i := range 8 {
		if b>>i&1 == 1 {
			long ^= int(a) << i
		}
	}
	for i := 14; i >= 8; i-- {
		if long>>i&1 == 1 {
			long ^= 0x11D << (i - 8)
		}
	}
	return byte(long)
}

// allProducts has the product of each two elements.
var allProducts = sync.OnceValue(func() *[256][256]byte {
	var all [256][256]byte
	for a := range 256 {
		for b := range 256 {
			all[a][b] = plainMul(byte(a), byte(b))
		}
	}
	return &all
})

// plainInverse tells the element whose product with a is 1.
func plainInverse(a byte) byte { return byte(bytes.IndexByte(allProducts()[a][:], 1)) }

// plainCell tells a cell of Cauchy's matrix, as chapter 5 tells it.
func plainCell(k, i, j int) byte { return plainInverse(byte((k + i) ^ j)) }

// plainParity tells the m parities of data, as chapter 6 tells them.
func plainParity(m int, data [][]byte) [][]byte {
	all := allProducts()
	parity := make([][]byte, m)
	for i := range parity {
		parity[i] = make([]byte, len(data[0]))
		for j, chunk := range data {
			by := &all[plainCell(len(data), i, j)]
			for at, x := range chunk {
				parity[i][at] ^= by[x]
			}
		}
	}
	return parity
}

// plainSize tells Size's answer, by numbers of any length.
func plainSize(k, m, chunk, n int) (int, api.Errno) {
	var both, room, stripes, size big.Int
	both.Add(big.NewInt(int64(k)), big.NewInt(int64(m)))
	if k < 1 || m < 0 || both.Cmp(big.NewInt(255)) > 0 || chunk < 1 || chunk > 4096 || n < 0 || n > 1<<23 {
		return 0, api.ErrArg
	}
	room.Mul(big.NewInt(int64(k)), big.NewInt(int64(chunk)))
	var left big.Int
	stripes.QuoRem(big.NewInt(int64(n)), &room, &left)
	if left.Sign() > 0 {
		stripes.Add(&stripes, big.NewInt(1))
	}
	size.Mul(&stripes, size.Mul(&both, big.NewInt(int64(chunk+4))))
	if size.Cmp(big.NewInt(1<<24)) > 0 {
		return 0, api.ErrLimit
	}
	return int(size.Int64()), api.OK
}

// plainStripe tells the chunks of a stripe, parity, too, of the bytes in it, which may be fewer.
func plainStripe(f form, b []byte) [][]byte {
	full := make([]byte, f.room())
	copy(full, b)
	var data [][]byte
	for j := range f.k {
		data = append(data, full[j*f.chunk:(j+1)*f.chunk])
	}
	return append(data, plainParity(f.m, data)...)
}

// plainLay tells the bytes laid out, stripe by stripe, as the chapter's words tell it.
func plainLay(f form, b []byte) []byte {
	var laid []byte
	for len(b) > 0 {
		n := min(len(b), f.room())
		for _, chunk := range plainStripe(f, b[:n]) {
			laid = append(laid, summed(chunk)...)
		}
		b = b[n:]
	}
	return laid
}

// plainMend tells the parts that the first k good ones say, by sums and products of rows.
func plainMend(f form, parts [][]byte, good []bool) [][]byte {
	var rows [][]byte // each the cells of a part, and its bytes behind them
	for i, part := range parts {
		if !good[i] || len(rows) == f.k {
			continue
		}
		cells := make([]byte, f.k)
		for j := range cells {
			if i >= f.k {
				cells[j] = plainCell(f.k, i-f.k, j)
			} else if i == j {
				cells[j] = 1
			}
		}
		rows = append(rows, slices.Concat(cells, part))
	}
	plainSolve(rows)
	var data [][]byte
	for _, row := range rows {
		data = append(data, row[f.k:])
	}
	return append(data, plainParity(f.m, data)...)
}

// plainSolve makes the identity of the first cells of rows, as many as there are rows.
func plainSolve(rows [][]byte) {
	all := allProducts()
	for col := range rows {
		found := col
		for rows[found][col] == 0 {
			found++
		}
		rows[col], rows[found] = rows[found], rows[col]
		by := plainInverse(rows[col][col])
		for at, x := range rows[col] {
			rows[col][at] = all[by][x]
		}
		for i, row := range rows {
			if c := row[col]; i != col {
				for at, x := range rows[col] {
					row[at] ^= all[c][x]
				}
			}
		}
	}
}

// plainRead tells Read's answer, stripe by stripe, as the chapter's words tell it.
func plainRead(f form, n int, s []byte) ([]byte, []int, api.Errno) {
	size, e := plainSize(f.k, f.m, f.chunk, n)
	switch {
	case e != api.OK:
		return nil, nil, e
	case len(s) < size:
		return nil, nil, api.ErrShort
	case len(s) > size:
		return nil, nil, api.ErrForm
	}
	var b []byte
	var bad []int
	long := f.parts() * (f.chunk + 4)
	for at := 0; at < size; at += long {
		parts, good := plainParts(f, s[at:at+long])
		lost := 0
		for i, is := range good {
			if !is {
				lost++
				bad = append(bad, at/(f.chunk+4)+i)
			}
		}
		if lost > f.m {
			return nil, nil, api.ErrDamage
		}
		mended := plainMend(f, parts, good)
		for i, is := range good {
			if is && !bytes.Equal(parts[i], mended[i]) {
				return nil, nil, api.ErrForm
			}
		}
		b = append(b, slices.Concat(mended[:f.k]...)...)
		for i := n; i < len(b); i++ {
			if b[i] != 0 {
				return nil, nil, api.ErrForm
			}
		}
	}
	return b[:min(n, len(b))], bad, api.OK
}

// plainParts tells the chunks of a stripe laid out, and which ones are good.
func plainParts(f form, stripe []byte) (parts [][]byte, good []bool) {
	for c := range slices.Chunk(stripe, f.chunk+4) {
		parts = append(parts, c[:f.chunk])
		good = append(good, isSummed(c))
	}
	return parts, good
}

// forms are ordinary shapes, and the edges of what may be.
func forms() []form {
	all := []form{{1, 0, 1}, {1, 1, 1}, {4, 2, 64}, {3, 2, 5}, {10, 4, 255}, {10, 4, 256}, {5, 3, 4096}, {1, 0, 4096}, {1, 1, 4095}, {20, 20, 30},
		{255, 0, 2}, {254, 1, 1}, {1, 254, 3}, {128, 127, 2}, {127, 128, 1}, {200, 55, 1}, {55, 200, 4}}
	for k := 1; k <= 5; k++ {
		for m := range 5 {
			all = append(all, form{k, m, 1}, form{k, m, 2}, form{k, m, 7})
		}
	}
	return all
}

// lengths are how many bytes a few stripes of a shape are filled by, to the edges.
func (f form) lengths() []int {
	room := f.room()
	all := []int{0, 1, 2, f.chunk - 1, f.chunk, f.chunk + 1, room - 1, room, room + 1, room + f.chunk, 2*room - 1, 2 * room, 2*room + 1, 5*room + room/2}
	slices.Sort(all)
	return slices.Compact(all)
}

// wrongForms are shapes that may be for no bytes.
func wrongForms() []form {
	const most, least = int(^uint(0) >> 1), -int(^uint(0)>>1) - 1
	return []form{{0, 0, 1}, {0, 1, 4}, {-1, 1, 4}, {-1, 256, 4}, {1, -1, 4}, {2, -1, 4}, {5, -5, 4}, {256, 0, 4}, {256, -1, 4}, {255, 1, 4}, {1, 255, 4}, {128, 128, 4},
		{1, 1, 0}, {1, 1, -1}, {1, 0, 4097}, {255, 0, 4097}, {0, 0, 0}, {-1, -1, -1}, {4, 2, 1 << 16},
		{most, 1, 4}, {1, most, 4}, {most, most, 4}, {least, 0, 4}, {1, least, 4}, {least, least, 4}, {most, least, 4}, {least, most, 4}, {most, 3 - most, 4}, {3 - most, most, 4}, {1, 1, most}, {1, 1, least}}
}
