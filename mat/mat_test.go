package mat

import (
	"math"
	"slices"
	"sync"
	"testing"

	"firkin/api"
	"firkin/gf"
)

// sample tells n bytes, others for each seed, the same in each run.
func sample(seed uint32, n int) []uint8 {
	out := make([]uint8, n)
	for i := range out {
		seed = seed*1664525 + 1013904223
		out[i] = uint8(seed >> 24)
	}
	return out
}

// sampleMatrix tells a matrix, another one for each seed.
func sampleMatrix(seed uint32, rows, cols int) api.Matrix {
	return api.Matrix{Rows: rows, Cols: cols, Cells: sample(seed, rows*cols)}
}

// fewMatrix tells a matrix of elements from 0 to 3 alone, so that many have no inverse.
func fewMatrix(seed uint32, rows, cols int) api.Matrix {
	m := sampleMatrix(seed, rows, cols)
	for i := range m.Cells {
		m.Cells[i] %= 4
	}
	return m
}

// cell tells a cell as the chapter's words place it.
func cell(m api.Matrix, i, j int) uint8 {
	return m.Cells[i*m.Cols+j]
}

// products has the product of each two elements.
var products = sync.OnceValue(func() *[256][256]uint8 {
	var out [256][256]uint8
	for a := range 256 {
		for b := range 256 {
			out[a][b] = gf.Mul(uint8(a), uint8(b))
		}
	}
	return &out
})

// plainProduct is the product as the chapter's words tell it.
func plainProduct(a, b api.Matrix) api.Matrix {
	mul := products()
	out := api.Matrix{Rows: a.Rows, Cols: b.Cols}
	for i := range a.Rows {
		for j := range b.Cols {
			var sum uint8
			for x := range a.Cols {
				sum ^= mul[cell(a, i, x)][cell(b, x, j)]
			}
			out.Cells = append(out.Cells, sum)
		}
	}
	return out
}

// plainIdentity is the identity as the chapter's words tell it.
func plainIdentity(n int) api.Matrix {
	out := api.Matrix{Rows: n, Cols: n}
	for i := range n {
		for j := range n {
			var x uint8
			if i == j {
				x = 1
			}
			out.Cells = append(out.Cells, x)
		}
	}
	return out
}

// without tells the matrix less a row and a column.
func without(m api.Matrix, row, col int) api.Matrix {
	out := api.Matrix{Rows: m.Rows - 1, Cols: m.Cols - 1}
	for i := range m.Rows {
		for j := range m.Cols {
			if i != row && j != col {
				out.Cells = append(out.Cells, cell(m, i, j))
			}
		}
	}
	return out
}

// determinant is 0 just where there is no inverse; it is told by its first row.
func determinant(m api.Matrix) uint8 {
	if m.Rows == 0 {
		return 1
	}
	var sum uint8
	for j := range m.Cols {
		sum ^= gf.Mul(cell(m, 0, j), determinant(without(m, 0, j)))
	}
	return sum
}

// plainRank is the most rows of a square part that has an inverse.
func plainRank(m api.Matrix) int {
	if m.Rows == m.Cols && determinant(m) != 0 {
		return m.Rows
	}
	rank := 0
	for i := range m.Rows {
		for j := range m.Cols {
			if m.Rows > m.Cols {
				rank = max(rank, plainRank(withoutRow(m, i)))
			} else if m.Rows < m.Cols {
				rank = max(rank, plainRank(withoutCol(m, j)))
			} else {
				rank = max(rank, plainRank(without(m, i, j)))
			}
		}
	}
	return rank
}

func withoutRow(m api.Matrix, row int) api.Matrix {
	out := api.Matrix{Rows: m.Rows - 1, Cols: m.Cols}
	out.Cells = append(out.Cells, m.Cells[:row*m.Cols]...)
	out.Cells = append(out.Cells, m.Cells[(row+1)*m.Cols:]...)
	return out
}

func withoutCol(m api.Matrix, col int) api.Matrix {
	out := api.Matrix{Rows: m.Rows, Cols: m.Cols - 1}
	for i, x := range m.Cells {
		if i%m.Cols != col {
			out.Cells = append(out.Cells, x)
		}
	}
	return out
}

// same tells whether two matrices are the same.
func same(a, b api.Matrix) bool {
	return a.Rows == b.Rows && a.Cols == b.Cols && slices.Equal(a.Cells, b.Cells)
}

// none tells whether it is the zero matrix.
func none(m api.Matrix) bool {
	return same(m, api.Matrix{})
}

// want fails, if what is told isn't the matrix, and OK.
func want(t *testing.T, what string, got api.Matrix, e api.Errno, m api.Matrix) {
	t.Helper()
	if e != api.OK || !same(got, m) {
		t.Fatalf("%s: %d rows, %d columns, error %d, or other cells than those of %d rows, %d columns", what, got.Rows, got.Cols, e, m.Rows, m.Cols)
	}
}

// refused fails, if what is told isn't the zero matrix and the error.
func refused(t *testing.T, what string, got api.Matrix, e, wanted api.Errno) {
	t.Helper()
	if e != wanted || !none(got) {
		t.Errorf("%s: %d rows, %d columns, %d cells, error %d, not none and error %d", what, got.Rows, got.Cols, len(got.Cells), e, wanted)
	}
}

// told fails, if the call refuses.
func told(t *testing.T) func(m api.Matrix, e api.Errno) api.Matrix {
	return func(m api.Matrix, e api.Errno) api.Matrix {
		t.Helper()
		if e != api.OK || !May(m) {
			t.Fatalf("%d rows, %d columns, %d cells, error %d", m.Rows, m.Cols, len(m.Cells), e)
		}
		return m
	}
}

// wrong tells matrices that may not be.
func wrong() []api.Matrix {
	out := []api.Matrix{
		{Cells: []uint8{1}},
		{Rows: 1, Cols: 1},
		{Rows: 2, Cols: 2, Cells: []uint8{1, 2, 3}},
		{Rows: 2, Cols: 2, Cells: []uint8{1, 2, 3, 4, 5}},
		{Rows: -1, Cols: -1, Cells: []uint8{1}},
		{Rows: -2, Cols: -2, Cells: []uint8{1, 2, 3, 4}},
		{Rows: 255, Cols: 255},
		{Rows: 255, Cols: 255, Cells: make([]uint8, 255*255-1)},
		{Rows: 256, Cols: 256, Cells: make([]uint8, 256*256)},
		{Rows: 256, Cols: 255, Cells: make([]uint8, 256*255)},
		{Rows: 255, Cols: 256, Cells: make([]uint8, 256*255)},
		{Rows: 256, Cols: 1, Cells: make([]uint8, 256)},
		{Rows: 1, Cols: 256, Cells: make([]uint8, 256)},
	}
	for _, n := range []int{math.MinInt, math.MinInt32, -256, -1, 256, 1 << 16, math.MaxInt32, math.MaxInt/2 + 1, math.MaxInt} {
		// The product of two of these, or what it wraps round to, may be 0.
		out = append(out, api.Matrix{Rows: n}, api.Matrix{Cols: n}, api.Matrix{Rows: n, Cols: n}, api.Matrix{Rows: n, Cols: 2}, api.Matrix{Rows: 2, Cols: n})
	}
	return out
}

// sizes are those of rows and columns that are tried.
var sizes = []int{0, 1, 2, 3, 4, 7, 16, 33}

// P5.1

func TestMayOfWhatMayBe(t *testing.T) {
	for rows := range 256 {
		for _, cols := range []int{0, 1, 2, 100, 254, 255} {
			for _, m := range []api.Matrix{{Rows: rows, Cols: cols}, {Rows: cols, Cols: rows}} {
				m.Cells = make([]uint8, rows*cols)
				if !May(m) {
					t.Errorf("%d rows, %d columns may not be", m.Rows, m.Cols)
				}
			}
		}
	}
	if !May(api.Matrix{}) || !May(api.Matrix{Cells: []uint8{}}) || !May(api.Matrix{Rows: 255}) || !May(api.Matrix{Cols: 255}) {
		t.Error("matrices without cells may not be")
	}
}

func TestMayOfWhatMayNotBe(t *testing.T) {
	for _, m := range wrong() {
		if May(m) {
			t.Errorf("%d rows, %d columns, %d cells may be", m.Rows, m.Cols, len(m.Cells))
		}
	}
}

// P5.2

func TestIdentityIsTheOneOfTheWords(t *testing.T) {
	for n := range 256 {
		got, e := Identity(n)
		want(t, "identity", got, e, plainIdentity(n))
	}
}

func TestIdentityOfOtherNumbers(t *testing.T) {
	for _, n := range []int{math.MinInt, math.MinInt32, -256, -255, -1, 256, 257, 65536, math.MaxInt32, math.MaxInt} {
		got, e := Identity(n)
		refused(t, "identity", got, e, api.ErrArg)
	}
}

func TestCauchyOfTheExamples(t *testing.T) {
	got, e := Cauchy(1, 1)
	want(t, "1 1", got, e, api.Matrix{Rows: 1, Cols: 1, Cells: []uint8{1}})
	got, e = Cauchy(2, 1)
	want(t, "2 1", got, e, api.Matrix{Rows: 1, Cols: 2, Cells: []uint8{142, 244}})
	got, e = Cauchy(0, 0)
	want(t, "0 0", got, e, api.Matrix{})
	got, e = Cauchy(0, 255)
	want(t, "0 255", got, e, api.Matrix{Rows: 255})
	got, e = Cauchy(255, 0)
	want(t, "255 0", got, e, api.Matrix{Cols: 255})
}

// checkCauchy holds each cell, times what it is the inverse of, against 1.
func checkCauchy(t *testing.T, k, m int) {
	got, e := Cauchy(k, m)
	if e != api.OK || got.Rows != m || got.Cols != k || len(got.Cells) != m*k {
		t.Fatalf("Cauchy(%d, %d): %d rows, %d columns, %d cells, error %d", k, m, got.Rows, got.Cols, len(got.Cells), e)
	}
	for i := range m {
		for j := range k {
			if products()[cell(got, i, j)][uint8(k+i)^uint8(j)] != 1 {
				t.Fatalf("Cauchy(%d, %d) has %d at %d, %d", k, m, cell(got, i, j), i, j)
			}
		}
	}
}

func TestCauchyIsOfInverses(t *testing.T) {
	for k := range 20 {
		for m := range 20 {
			checkCauchy(t, k, m)
		}
	}
	for k := range 256 {
		checkCauchy(t, k, 255-k)
	}
}

func TestCauchyOfOtherNumbers(t *testing.T) {
	for _, c := range [][2]int{
		{-1, 0}, {0, -1}, {-1, -1}, {-1, 1}, {1, -1}, {-1, 255}, {255, -1}, {-1, 256}, {256, -1}, {-100, 300},
		{256, 0}, {0, 256}, {255, 1}, {1, 255}, {128, 128}, {127, 129}, {255, 255}, {256, 256},
		{math.MaxInt, 0}, {0, math.MaxInt}, {math.MaxInt, 1}, {1, math.MaxInt}, {math.MaxInt, math.MaxInt}, {math.MaxInt, math.MinInt}, {math.MinInt, math.MaxInt},
		{math.MinInt, 0}, {0, math.MinInt}, {math.MinInt, math.MinInt}, {math.MaxInt/2 + 1, math.MaxInt/2 + 1},
	} {
		got, e := Cauchy(c[0], c[1])
		refused(t, "Cauchy", got, e, api.ErrArg)
	}
}

// P5.3

func TestStackLaysTheRows(t *testing.T) {
	for _, cols := range sizes {
		for _, rows := range [][]int{{0}, {1}, {3}, {255}, {0, 0}, {1, 2}, {0, 5, 0}, {2, 3, 4, 5}, {100, 155}, {255, 0}, {0, 0, 255, 0}, {1, 254}} {
			var ms []api.Matrix
			all := api.Matrix{Cols: cols}
			for i, n := range rows {
				m := sampleMatrix(uint32(i+n), n, cols)
				ms = append(ms, m)
				all.Rows += n
				all.Cells = append(all.Cells, m.Cells...)
			}
			got, e := Stack(ms...)
			want(t, "Stack", got, e, all)
		}
	}
	many := slices.Repeat([]api.Matrix{sampleMatrix(1, 1, 2)}, 255)
	got, e := Stack(many...)
	want(t, "255 matrices", got, e, api.Matrix{Rows: 255, Cols: 2, Cells: slices.Repeat(many[0].Cells, 255)})
}

func TestStackOfNone(t *testing.T) {
	got, e := Stack()
	want(t, "none", got, e, api.Matrix{})
	got, e = Stack([]api.Matrix{}...)
	want(t, "an empty list", got, e, api.Matrix{})
}

func TestStackOfWhatMayNotBe(t *testing.T) {
	for _, m := range wrong() {
		right := api.Matrix{Cols: 2}
		for _, ms := range [][]api.Matrix{{m}, {m, m}, {right, m}, {m, right}, {right, m, right}} {
			got, e := Stack(ms...)
			refused(t, "Stack", got, e, api.ErrArg)
		}
	}
}

func TestStackOfUnlikeColumns(t *testing.T) {
	a, b := sampleMatrix(1, 2, 3), sampleMatrix(2, 2, 4)
	for _, ms := range [][]api.Matrix{
		{a, b}, {b, a}, {a, a, b}, {a, b, a}, {{}, a}, {a, {}}, {{Cols: 3}, {Cols: 4}}, {{Rows: 2}, a}, {{Cols: 4}, a}, {a, {Cols: 4}},
	} {
		got, e := Stack(ms...)
		refused(t, "Stack", got, e, api.ErrArg)
	}
}

func TestStackOfTooManyRows(t *testing.T) {
	for _, cols := range []int{0, 1, 255} {
		for _, rows := range [][]int{{255, 1}, {1, 255}, {128, 128}, {255, 255}, {100, 100, 56}, {255, 0, 1}} {
			var ms []api.Matrix
			for _, n := range rows {
				ms = append(ms, sampleMatrix(1, n, cols))
			}
			got, e := Stack(ms...)
			refused(t, "Stack", got, e, api.ErrArg)
		}
		got, e := Stack(slices.Repeat([]api.Matrix{sampleMatrix(1, 1, cols)}, 256)...)
		refused(t, "Stack", got, e, api.ErrArg)
	}
}

func TestPickTellsTheRows(t *testing.T) {
	m := api.Matrix{Rows: 3, Cols: 2, Cells: []uint8{1, 2, 3, 4, 5, 6}}
	for _, c := range []struct {
		rows  []int
		cells []uint8
	}{
		{nil, nil}, {[]int{}, nil}, {[]int{0}, []uint8{1, 2}}, {[]int{2}, []uint8{5, 6}}, {[]int{2, 0}, []uint8{5, 6, 1, 2}},
		{[]int{1, 1, 1}, []uint8{3, 4, 3, 4, 3, 4}}, {[]int{0, 1, 2}, m.Cells}, {slices.Repeat([]int{0}, 255), slices.Repeat([]uint8{1, 2}, 255)},
	} {
		got, e := Pick(m, c.rows...)
		want(t, "Pick", got, e, api.Matrix{Rows: len(c.rows), Cols: 2, Cells: c.cells})
	}
	got, e := Pick(api.Matrix{Rows: 2}, 1, 0, 1)
	want(t, "no columns", got, e, api.Matrix{Rows: 3})
	got, e = Pick(api.Matrix{Cols: 7})
	want(t, "no rows", got, e, api.Matrix{Cols: 7})
	big := sampleMatrix(9, 255, 255)
	var back []int
	for i := range 255 {
		back = append(back, 254-i)
	}
	once := told(t)(Pick(big, back...))
	if !slices.Equal(once.Cells[:255], big.Cells[254*255:]) {
		t.Error("the last row isn't the first")
	}
	got, e = Pick(once, back...)
	want(t, "back twice", got, e, big)
}

func TestPickOfWhatMayNotBe(t *testing.T) {
	for _, m := range wrong() {
		for _, rows := range [][]int{nil, {0}, {0, 1}} {
			got, e := Pick(m, rows...)
			refused(t, "Pick", got, e, api.ErrArg)
		}
	}
}

func TestPickOfOtherRows(t *testing.T) {
	m := sampleMatrix(1, 3, 2)
	for _, i := range []int{math.MinInt, -3, -1, 3, 4, 255, math.MaxInt / 2, math.MaxInt/2 + 1, math.MaxInt} {
		for _, rows := range [][]int{{i}, {0, i}, {i, 0}} {
			got, e := Pick(m, rows...)
			refused(t, "Pick", got, e, api.ErrArg)
			got, e = Pick(api.Matrix{Rows: 3}, rows...)
			refused(t, "Pick of no columns", got, e, api.ErrArg)
		}
	}
	got, e := Pick(api.Matrix{}, 0)
	refused(t, "Pick of no rows", got, e, api.ErrArg)
	for _, n := range []int{256, 257, 1000} {
		got, e := Pick(m, make([]int, n)...)
		refused(t, "too many rows", got, e, api.ErrArg)
	}
}

// P5.4

func TestMulIsTheOneOfTheWords(t *testing.T) {
	for i, rows := range sizes {
		for j, both := range sizes {
			for k, cols := range sizes {
				a, b := sampleMatrix(uint32(i+10*j), rows, both), sampleMatrix(uint32(j+10*k), both, cols)
				got, e := Mul(a, b)
				want(t, "Mul", got, e, plainProduct(a, b))
			}
		}
	}
	got, e := Mul(api.Matrix{Rows: 1, Cols: 2, Cells: []uint8{1, 2}}, api.Matrix{Rows: 2, Cols: 1, Cells: []uint8{3, 4}})
	want(t, "1 2 and 3 4", got, e, api.Matrix{Rows: 1, Cols: 1, Cells: []uint8{11}})
}

func TestMulOfTheGreatest(t *testing.T) {
	for _, c := range [][3]int{{255, 255, 255}, {255, 1, 255}, {1, 255, 1}, {255, 0, 255}, {0, 255, 255}, {255, 255, 0}} {
		a, b := sampleMatrix(1, c[0], c[1]), sampleMatrix(2, c[1], c[2])
		got, e := Mul(a, b)
		want(t, "Mul", got, e, plainProduct(a, b))
	}
}

func TestMulWithTheIdentity(t *testing.T) {
	for _, rows := range sizes {
		for _, cols := range sizes {
			m := sampleMatrix(3, rows, cols)
			got, e := Mul(plainIdentity(rows), m)
			want(t, "from the left", got, e, m)
			got, e = Mul(m, plainIdentity(cols))
			want(t, "from the right", got, e, m)
		}
	}
}

func TestMulOfWhatMayNotBe(t *testing.T) {
	for _, m := range wrong() {
		for _, p := range [][2]api.Matrix{{m, m}, {m, {}}, {{}, m}, {m, {Rows: m.Cols}}, {{Cols: m.Rows}, m}, {sampleMatrix(1, 2, 2), m}, {m, sampleMatrix(1, 2, 2)}} {
			got, e := Mul(p[0], p[1])
			refused(t, "Mul", got, e, api.ErrArg)
		}
	}
}

func TestMulOfUnlikeMatrices(t *testing.T) {
	for _, c := range [][4]int{{2, 2, 1, 2}, {2, 2, 3, 2}, {2, 3, 2, 3}, {1, 2, 1, 2}, {0, 1, 0, 1}, {1, 0, 1, 0}, {2, 2, 0, 0}, {0, 0, 2, 2}, {255, 255, 254, 255}} {
		got, e := Mul(sampleMatrix(1, c[0], c[1]), sampleMatrix(2, c[2], c[3]))
		refused(t, "Mul", got, e, api.ErrArg)
	}
}

// P5.5

// checkInverse holds the inverse against its words, from either side.
func checkInverse(t *testing.T, m api.Matrix) {
	t.Helper()
	inverse := told(t)(Inverse(m))
	if inverse.Rows != m.Rows || inverse.Cols != m.Cols {
		t.Fatalf("%d rows, %d columns of %d", inverse.Rows, inverse.Cols, m.Rows)
	}
	if !same(plainProduct(m, inverse), plainIdentity(m.Rows)) || !same(plainProduct(inverse, m), plainIdentity(m.Rows)) {
		t.Fatalf("the product of %d rows isn't the identity", m.Rows)
	}
}

func TestInverseOfTheExamples(t *testing.T) {
	got, e := Inverse(api.Matrix{Rows: 1, Cols: 1, Cells: []uint8{2}})
	want(t, "2", got, e, api.Matrix{Rows: 1, Cols: 1, Cells: []uint8{142}})
	got, e = Inverse(api.Matrix{})
	want(t, "of nothing", got, e, api.Matrix{})
	got, e = Inverse(api.Matrix{Rows: 2, Cols: 2, Cells: []uint8{1, 1, 1, 1}})
	refused(t, "1 1, 1 1", got, e, api.ErrFlat)
	// The first cell is 0, so that rows must change places.
	checkInverse(t, api.Matrix{Rows: 2, Cols: 2, Cells: []uint8{0, 1, 2, 3}})
	checkInverse(t, api.Matrix{Rows: 3, Cols: 3, Cells: []uint8{0, 0, 1, 0, 1, 0, 1, 0, 0}})
}

func TestInverseOfOneCell(t *testing.T) {
	for x := range 256 {
		got, e := Inverse(api.Matrix{Rows: 1, Cols: 1, Cells: []uint8{uint8(x)}})
		if x == 0 {
			refused(t, "0", got, e, api.ErrFlat)
			continue
		}
		inverse, _ := gf.Inv(uint8(x))
		want(t, "one cell", got, e, api.Matrix{Rows: 1, Cols: 1, Cells: []uint8{inverse}})
	}
}

// Whether there is an inverse is held against determinants.
func TestInverseOfSmallMatrices(t *testing.T) {
	flat := 0
	for n := 1; n <= 4; n++ {
		for seed := range uint32(400) {
			m := fewMatrix(seed, n, n)
			if determinant(m) != 0 {
				checkInverse(t, m)
				continue
			}
			flat++
			got, e := Inverse(m)
			refused(t, "determinant 0", got, e, api.ErrFlat)
		}
	}
	if flat < 100 || flat > 1200 {
		t.Errorf("%d have no inverse: too few of one kind are tried", flat)
	}
}

func TestInverseOfGreatMatrices(t *testing.T) {
	for _, n := range []int{0, 5, 16, 33, 64, 100, 254, 255} {
		identity := plainIdentity(n)
		got, e := Inverse(identity)
		want(t, "identity", got, e, identity)
		checkInverse(t, invertible(uint32(n), n))
	}
}

// invertible tells a matrix that has an inverse: rows that stand in another order, times one that has 1 where row and column are the same, and 0 above.
func invertible(seed uint32, n int) api.Matrix {
	under, order := plainIdentity(n), plainIdentity(n)
	cells := sample(seed, n*n)
	for i := range n {
		for j := range i {
			under.Cells[i*n+j] = cells[i*n+j]
		}
	}
	for i := range n {
		from, to := order.Cells[i*n:(i+1)*n], order.Cells[(i*7%n)*n:(i*7%n+1)*n]
		for j := range from {
			from[j], to[j] = to[j], from[j]
		}
	}
	return plainProduct(plainProduct(under, order), plainTurned(under))
}

// plainTurned tells the rows as columns.
func plainTurned(m api.Matrix) api.Matrix {
	out := api.Matrix{Rows: m.Cols, Cols: m.Rows}
	for j := range m.Cols {
		for i := range m.Rows {
			out.Cells = append(out.Cells, cell(m, i, j))
		}
	}
	return out
}

func TestInverseOfWhatMayNotBe(t *testing.T) {
	for _, m := range wrong() {
		got, e := Inverse(m)
		refused(t, "Inverse", got, e, api.ErrArg)
	}
}

func TestInverseOfOtherThanSquares(t *testing.T) {
	for _, rows := range append(sizes, 255) {
		for _, cols := range append(sizes, 255) {
			if rows != cols {
				got, e := Inverse(sampleMatrix(1, rows, cols))
				refused(t, "rows and columns", got, e, api.ErrArg)
				got, e = Inverse(api.Matrix{Rows: rows, Cols: cols, Cells: make([]uint8, rows*cols)})
				refused(t, "cells of 0", got, e, api.ErrArg)
			}
		}
	}
}

func TestRankOfTheExamples(t *testing.T) {
	for _, c := range []struct {
		m api.Matrix
		n int
	}{
		{api.Matrix{Rows: 2, Cols: 2, Cells: []uint8{1, 1, 1, 1}}, 1}, {api.Matrix{}, 0}, {api.Matrix{Rows: 255}, 0}, {api.Matrix{Cols: 255}, 0},
		{api.Matrix{Rows: 2, Cols: 2, Cells: make([]uint8, 4)}, 0}, {api.Matrix{Rows: 2, Cols: 3, Cells: []uint8{0, 0, 5, 0, 0, 7}}, 1},
		{api.Matrix{Rows: 3, Cols: 2, Cells: []uint8{0, 0, 0, 3, 4, 0}}, 2}, {api.Matrix{Rows: 1, Cols: 3, Cells: []uint8{0, 0, 9}}, 1},
		{api.Matrix{Rows: 3, Cols: 1, Cells: []uint8{0, 0, 9}}, 1}, {plainIdentity(255), 255},
	} {
		if n, e := Rank(c.m); n != c.n || e != api.OK {
			t.Errorf("%d, error %d, of %d rows, %d columns", n, e, c.m.Rows, c.m.Cols)
		}
	}
}

// Ranks are held against determinants of the square parts.
func TestRankOfSmallMatrices(t *testing.T) {
	seen := [4]int{}
	for rows := 1; rows <= 3; rows++ {
		for cols := 1; cols <= 4; cols++ {
			for seed := range uint32(100) {
				for _, m := range []api.Matrix{fewMatrix(seed, rows, cols), thinMatrix(seed, rows, cols)} {
					rank := plainRank(m)
					seen[rank]++
					if n, e := Rank(m); n != rank || e != api.OK {
						t.Fatalf("%d, error %d, of % x, not %d", n, e, m.Cells, rank)
					}
				}
			}
		}
	}
	if slices.Min(seen[:]) < 20 {
		t.Errorf("ranks %d: too few of one are tried", seen)
	}
}

// thinMatrix tells a matrix most of whose cells are 0.
func thinMatrix(seed uint32, rows, cols int) api.Matrix {
	m := sampleMatrix(seed, rows, cols)
	for i, x := range m.Cells {
		if x > 60 {
			m.Cells[i] = 0
		}
	}
	return m
}

// The rank of a product by way of n columns is n at most; it is just that, where either side begins with the identity.
func TestRankOfGreatMatrices(t *testing.T) {
	for _, c := range [][2]int{{1, 255}, {255, 1}, {20, 30}, {30, 20}, {255, 255}, {100, 255}} {
		for _, n := range []int{0, 1, 2, 17, min(c[0], c[1]) - 1, min(c[0], c[1])} {
			if n > min(c[0], c[1]) {
				continue
			}
			left := api.Matrix{Rows: c[0], Cols: n, Cells: append(plainIdentity(n).Cells, sample(1, (c[0]-n)*n)...)}
			right := plainTurned(api.Matrix{Rows: c[1], Cols: n, Cells: append(plainIdentity(n).Cells, sample(2, (c[1]-n)*n)...)})
			m := plainProduct(left, right)
			if got, e := Rank(m); got != n || e != api.OK {
				t.Errorf("%d, error %d, of %d rows, %d columns, not %d", got, e, m.Rows, m.Cols, n)
			}
			if got, e := Rank(plainTurned(m)); got != n || e != api.OK {
				t.Errorf("%d, error %d, of the columns as rows, not %d", got, e, n)
			}
		}
	}
}

func TestRankOfWhatMayNotBe(t *testing.T) {
	for _, m := range wrong() {
		if n, e := Rank(m); n != 0 || e != api.ErrArg {
			t.Errorf("%d, error %d, of %d rows, %d columns, %d cells", n, e, m.Rows, m.Cols, len(m.Cells))
		}
	}
}

// P5.6

func TestProductsDoNotCareForBrackets(t *testing.T) {
	for seed, c := range [][4]int{{1, 1, 1, 1}, {2, 3, 4, 5}, {5, 4, 3, 2}, {30, 1, 30, 1}, {1, 30, 1, 30}, {3, 0, 4, 2}, {0, 3, 4, 5}, {64, 65, 66, 67}, {255, 17, 255, 16}} {
		x, y, z := sampleMatrix(uint32(seed), c[0], c[1]), sampleMatrix(uint32(seed+100), c[1], c[2]), sampleMatrix(uint32(seed+200), c[2], c[3])
		first := told(t)(Mul(told(t)(Mul(x, y)), z))
		got, e := Mul(x, told(t)(Mul(y, z)))
		want(t, "brackets", got, e, first)
	}
}

func TestInverseOfAProduct(t *testing.T) {
	for _, n := range []int{1, 2, 3, 8, 40, 100} {
		a, b := invertible(uint32(n), n), invertible(uint32(n+1000), n)
		product := told(t)(Mul(a, b))
		got, e := Mul(told(t)(Inverse(b)), told(t)(Inverse(a)))
		want(t, "the other way round", got, e, told(t)(Inverse(product)))
		got, e = Inverse(told(t)(Inverse(a)))
		want(t, "the inverse of the inverse", got, e, a)
	}
}

// A row that isn't 0, times the matrix, is 0, where one row is made of the others: its own element is 1 there.
func TestRowsMadeOfOthersHaveNoInverse(t *testing.T) {
	for _, n := range []int{1, 2, 3, 10, 60, 255} {
		for _, made := range []int{0, n / 2, n - 1} {
			m := invertible(uint32(n), n)
			by := api.Matrix{Rows: 1, Cols: n, Cells: sample(uint32(made), n)}
			by.Cells[made] = 0
			copy(m.Cells[made*n:(made+1)*n], plainProduct(by, m).Cells)
			by.Cells[made] = 1
			zero, e := Mul(by, m)
			want(t, "the row times the matrix", zero, e, api.Matrix{Rows: 1, Cols: n, Cells: make([]uint8, n)})
			got, e := Inverse(m)
			refused(t, "a row of others", got, e, api.ErrFlat)
			got, e = Inverse(plainTurned(m))
			refused(t, "a column of others", got, e, api.ErrFlat)
			if rank, e := Rank(m); rank != n-1 || e != api.OK {
				t.Errorf("the rank is %d, error %d, of %d rows", rank, e, n)
			}
		}
	}
}

// P5.7

// whole tells the identity of k rows with Cauchy(k, m) below it.
func whole(t *testing.T, k, m int) api.Matrix {
	return told(t)(Stack(told(t)(Identity(k)), told(t)(Cauchy(k, m))))
}

// choices hands on each k of the numbers below n, in order.
func choices(n, k int, to func([]int)) {
	var chosen []int
	var from func(at int)
	from = func(at int) {
		if len(chosen) == k {
			to(chosen)
			return
		}
		for i := at; i < n; i++ {
			chosen = append(chosen, i)
			from(i + 1)
			chosen = chosen[:len(chosen)-1]
		}
	}
	from(0)
}

func TestEachKRowsHaveAnInverse(t *testing.T) {
	for k := range 7 {
		for m := range 6 {
			all := whole(t, k, m)
			choices(k+m, k, func(rows []int) {
				checkInverse(t, told(t)(Pick(all, rows...)))
				back := slices.Clone(rows)
				slices.Reverse(back)
				checkInverse(t, told(t)(Pick(all, back...)))
			})
		}
	}
}

func TestKRowsOfManyHaveAnInverse(t *testing.T) {
	for seed, c := range [][2]int{{127, 128}, {128, 127}, {254, 1}, {1, 254}, {200, 55}, {55, 200}, {20, 20}, {255, 0}} {
		k, m := c[0], c[1]
		all := whole(t, k, m)
		mixed := make([]int, k+m)
		for i := range mixed {
			mixed[i] = i
		}
		for i, x := range sample(uint32(seed), k+m) {
			j := int(x) % (k + m)
			mixed[i], mixed[j] = mixed[j], mixed[i]
		}
		last := slices.Clone(mixed)
		slices.Sort(last)
		for _, rows := range [][]int{mixed[:k], last[m:], last[:k]} {
			picked := told(t)(Pick(all, rows...))
			got, e := Mul(picked, told(t)(Inverse(picked)))
			want(t, "rows and their inverse", got, e, plainIdentity(k))
			if rank, e := Rank(picked); rank != k || e != api.OK {
				t.Errorf("the rank is %d, error %d, of %d rows", rank, e, k)
			}
		}
	}
}

// Memory

// roomy tells the same matrix with spare room behind its cells, and all of that memory.
func roomy(m api.Matrix) (api.Matrix, []uint8) {
	room := append(slices.Clone(m.Cells), 1, 2, 3, 4, 5)
	m.Cells = room[:len(m.Cells)]
	return m, room
}

func TestWhatIsHandedInStays(t *testing.T) {
	for _, n := range []int{0, 1, 2, 5, 20} {
		m, room := roomy(invertible(uint32(n), n))
		rows := append(make([]int, n), 7)[:n]
		before, rowsBefore := slices.Clone(room), slices.Clone(rows[:n+1])
		ms := []api.Matrix{m, m, {Rows: 1, Cols: 9, Cells: []uint8{1}}}
		calls := []func() api.Matrix{
			func() api.Matrix { return told(t)(Stack(m)) },
			func() api.Matrix { return told(t)(Stack(ms[:2]...)) },
			func() api.Matrix { return told(t)(Pick(m, rows...)) },
			func() api.Matrix { return told(t)(Mul(m, m)) },
			func() api.Matrix { return told(t)(Inverse(m)) },
			func() api.Matrix { return told(t)(Identity(n)) },
			func() api.Matrix { return told(t)(Cauchy(n, n)) },
		}
		for i, call := range calls {
			got, again := call(), call()
			kept := slices.Clone(got.Cells)
			for j := range again.Cells {
				again.Cells[j]++
			}
			_ = append(again.Cells, 9, 9, 9)
			if !slices.Equal(room, before) || !slices.Equal(rows[:n+1], rowsBefore) || !slices.Equal(got.Cells, kept) || ms[2].Cols != 9 {
				t.Errorf("call %d of %d rows shares memory", i, n)
			}
			for j := range room {
				room[j]++
			}
			if !slices.Equal(got.Cells, kept) {
				t.Errorf("call %d of %d rows keeps memory", i, n)
			}
			copy(room, before)
		}
		Rank(m)
		May(m)
		Inverse(api.Matrix{Rows: m.Rows, Cols: m.Cols, Cells: make([]uint8, n*n)})
		if !slices.Equal(room, before) {
			t.Errorf("a matrix of %d rows has changed", n)
		}
	}
}

func TestAMatrixWithItself(t *testing.T) {
	m := sampleMatrix(4, 9, 9)
	kept := sampleMatrix(4, 9, 9)
	got, e := Mul(m, m)
	want(t, "Mul", got, e, plainProduct(kept, kept))
	got, e = Stack(m, m)
	want(t, "Stack", got, e, api.Matrix{Rows: 18, Cols: 9, Cells: append(slices.Clone(kept.Cells), kept.Cells...)})
	if !same(m, kept) {
		t.Error("it has changed")
	}
}
