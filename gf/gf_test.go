package gf

import (
	"bytes"
	"math"
	"testing"

	"firkin/api"
)

// plainProduct is the product as the document's words tell it, coefficient by coefficient.
func plainProduct(a, b uint8) uint8 {
	var product [15]int
	for i := range 8 {
		for j := range 8 {
			product[i+j] += int(a>>i&1) * int(b>>j&1)
		}
	}
	for i := 14; i >= 8; i-- {
		if product[i]%2 == 1 {
			for _, below := range []int{0, 2, 3, 4, 8} {
				product[i-8+below]++
			}
		}
	}
	var out uint8
	for i := range 8 {
		out |= uint8(product[i]%2) << i
	}
	return out
}

// plainProducts tells the products of each two elements.
func plainProducts() *[256][256]uint8 {
	var out [256][256]uint8
	for a := range 256 {
		for b := range 256 {
			out[a][b] = plainProduct(uint8(a), uint8(b))
		}
	}
	return &out
}

// products tells what Mul tells of each two elements.
func products() *[256][256]uint8 {
	var out [256][256]uint8
	for a := range 256 {
		for b := range 256 {
			out[a][b] = Mul(uint8(a), uint8(b))
		}
	}
	return &out
}

// sample tells n bytes, others for each seed, the same in each run.
func sample(seed uint32, n int) []byte {
	out := make([]byte, n)
	for i := range out {
		seed = seed*1664525 + 1013904223
		out[i] = byte(seed >> 24)
	}
	return out
}

// lengths are those of the lists that Add and Dot are tried with.
var lengths = []int{0, 1, 2, 3, 7, 8, 9, 15, 16, 17, 100, 255, 256, 257, 4096, 5000}

// P4.1

func TestMulOfTheExamples(t *testing.T) {
	for _, c := range []struct{ a, b, want uint8 }{
		{2, 128, 29}, {3, 7, 9}, {0, 9, 0}, {9, 0, 0}, {0, 0, 0}, {1, 255, 255}, {255, 1, 255}, {2, 142, 1}, {128, 128, 19}, {255, 255, 226},
	} {
		if got := Mul(c.a, c.b); got != c.want {
			t.Errorf("Mul(%d, %d) is %d, not %d", c.a, c.b, got, c.want)
		}
	}
}

func TestMulIsTheOneOfTheWords(t *testing.T) {
	plain := plainProducts()
	for a := range 256 {
		for b := range 256 {
			if got := Mul(uint8(a), uint8(b)); got != plain[a][b] {
				t.Fatalf("Mul(%d, %d) is %d, not %d", a, b, got, plain[a][b])
			}
		}
	}
}

func TestPowOfTheExamples(t *testing.T) {
	for _, c := range []struct {
		a    uint8
		n    uint64
		want uint8
	}{
		{2, 255, 1}, {0, 0, 1}, {0, 1, 0}, {0, 2, 0}, {0, 5, 0}, {0, 1 << 63, 0}, {0, math.MaxUint64, 0}, {2, 0, 1}, {2, 1, 2}, {2, 8, 29}, {255, 0, 1}, {255, 1, 255},
	} {
		if got := Pow(c.a, c.n); got != c.want {
			t.Errorf("Pow(%d, %d) is %d, not %d", c.a, c.n, got, c.want)
		}
	}
}

func TestPowIsTheElementTimesItself(t *testing.T) {
	plain := plainProducts()
	for a := range 256 {
		want := uint8(1)
		for n := range 600 {
			if got := Pow(uint8(a), uint64(n)); got != want {
				t.Fatalf("Pow(%d, %d) is %d, not %d", a, n, got, want)
			}
			want = plain[want][a]
		}
	}
}

// The power 255 of each element but 0 is 1, so that n may be told by what is left of it.
func TestPowOfManyTimes(t *testing.T) {
	for a := 1; a < 256; a++ {
		for _, n := range []uint64{1 << 16, 1 << 31, 1<<32 - 1, 1 << 32, 1<<32 + 7, 1<<63 - 1, 1 << 63, math.MaxUint64 - 1, math.MaxUint64} {
			if got, want := Pow(uint8(a), n), Pow(uint8(a), n%255); got != want {
				t.Fatalf("Pow(%d, %d) is %d, not %d", a, n, got, want)
			}
		}
	}
}

// P4.2

func TestInvIsTheElementWhoseProductIsOne(t *testing.T) {
	if got, e := Inv(2); got != 142 || e != api.OK {
		t.Errorf("Inv(2) is %d, error %d", got, e)
	}
	if got, e := Inv(1); got != 1 || e != api.OK {
		t.Errorf("Inv(1) is %d, error %d", got, e)
	}
	for a := 1; a < 256; a++ {
		got, e := Inv(uint8(a))
		if e != api.OK || plainProduct(got, uint8(a)) != 1 {
			t.Errorf("Inv(%d) is %d, error %d", a, got, e)
		}
	}
}

func TestInvOfZero(t *testing.T) {
	if got, e := Inv(0); got != 0 || e != api.ErrArg {
		t.Errorf("%d, error %d", got, e)
	}
}

func TestDivIsTheElementWhoseProductIsTheOther(t *testing.T) {
	plain := plainProducts()
	for a := range 256 {
		for b := 1; b < 256; b++ {
			got, e := Div(uint8(a), uint8(b))
			if e != api.OK || plain[got][b] != uint8(a) {
				t.Fatalf("Div(%d, %d) is %d, error %d", a, b, got, e)
			}
		}
	}
}

func TestDivByZero(t *testing.T) {
	for a := range 256 {
		if got, e := Div(uint8(a), 0); got != 0 || e != api.ErrArg {
			t.Errorf("Div(%d, 0) is %d, error %d", a, got, e)
		}
	}
}

func TestLogIsTheLeastPower(t *testing.T) {
	seen := [256]bool{}
	power := uint8(1)
	for n := range 600 {
		if !seen[power] {
			seen[power] = true
			if got, e := Log(power); got != n || e != api.OK {
				t.Errorf("Log(%d) is %d, error %d, not %d", power, got, e, n)
			}
		}
		power = plainProduct(power, 2)
	}
	for a := 1; a < 256; a++ {
		if !seen[a] {
			t.Errorf("%d is no power of 2", a)
		}
	}
}

func TestLogOfTheExamples(t *testing.T) {
	for _, c := range []struct {
		a uint8
		n int
		e api.Errno
	}{
		{29, 8, api.OK}, {1, 0, api.OK}, {2, 1, api.OK}, {128, 7, api.OK}, {142, 254, api.OK}, {0, 0, api.ErrArg},
	} {
		if got, e := Log(c.a); got != c.n || e != c.e {
			t.Errorf("Log(%d) is %d, error %d, not %d, error %d", c.a, got, e, c.n, c.e)
		}
	}
}

// P4.3

func TestRowHasTheProducts(t *testing.T) {
	plain := plainProducts()
	for c := range 256 {
		if got := Row(uint8(c)); got != plain[c] {
			t.Errorf("Row(%d) is %d, not %d", c, got, plain[c])
		}
	}
}

// P4.4

func TestAddIsTheSumOfTheBytes(t *testing.T) {
	if got, e := Add([]byte{1, 2}, 2, []byte{128, 1}); e != api.OK || !bytes.Equal(got, []byte{28, 0}) {
		t.Errorf("% x, error %d", got, e)
	}
	plain := plainProducts()
	for i, n := range lengths {
		to, b := sample(uint32(2*i), n), sample(uint32(2*i+1), n)
		for c := range 256 {
			want := make([]byte, n)
			for j := range want {
				want[j] = to[j] ^ plain[c][b[j]]
			}
			if got, e := Add(to, uint8(c), b); e != api.OK || !bytes.Equal(got, want) {
				t.Fatalf("Add of %d bytes and %d times others: error %d, or other bytes", n, c, e)
			}
		}
	}
}

func TestAddOfEachTwoBytes(t *testing.T) {
	plain := plainProducts()
	to, b := bytes.Repeat([]byte{0x5A}, 256), make([]byte, 256)
	for i := range b {
		b[i] = byte(i)
	}
	for c := range 256 {
		got, e := Add(to, uint8(c), b)
		if e != api.OK || len(got) != 256 {
			t.Fatalf("Add with %d: %d bytes, error %d", c, len(got), e)
		}
		for i, x := range got {
			if x != 0x5A^plain[c][i] {
				t.Fatalf("0x5A and %d times %d are %#x", c, i, x)
			}
		}
	}
}

// unlike tells two lists that aren't as long as each other, for each two lengths.
func unlike() [][2][]byte {
	out := [][2][]byte{{nil, {0}}, {{0}, nil}, {{}, {7}}, {{1, 2}, {1}}}
	for _, n := range lengths {
		for _, m := range lengths {
			if n != m {
				out = append(out, [2][]byte{sample(1, n), sample(2, m)})
			}
		}
	}
	return out
}

func TestAddOfUnlikeLengths(t *testing.T) {
	for _, p := range unlike() {
		for _, c := range []uint8{0, 1, 2, 255} {
			if got, e := Add(p[0], c, p[1]); len(got) != 0 || e != api.ErrArg {
				t.Errorf("of %d and %d bytes: % x, error %d", len(p[0]), len(p[1]), got, e)
			}
		}
	}
}

func TestAddOfNothing(t *testing.T) {
	for _, p := range [][2][]byte{{nil, nil}, {{}, {}}, {nil, {}}, {{}, nil}} {
		if got, e := Add(p[0], 3, p[1]); len(got) != 0 || e != api.OK {
			t.Errorf("% x, error %d", got, e)
		}
	}
}

func TestAddTellsNewMemory(t *testing.T) {
	room, other := sample(3, 40), sample(4, 40)
	before, otherBefore := bytes.Clone(room), bytes.Clone(other)
	for _, c := range []uint8{0, 1, 9} {
		for _, n := range []int{0, 1, 30, 40} {
			got, _ := Add(room[:n], c, other[:n])
			again, _ := Add(room[:n], c, other[:n])
			want := bytes.Clone(got)
			for i := range again {
				again[i]++
			}
			_ = append(again, 1, 2, 3)
			if !bytes.Equal(got, want) || !bytes.Equal(room, before) || !bytes.Equal(other, otherBefore) {
				t.Errorf("%d times %d bytes share memory", c, n)
			}
		}
	}
}

func TestAddOfTheSameBytes(t *testing.T) {
	b := sample(5, 300)
	before := bytes.Clone(b)
	got, e := Add(b, 1, b)
	if e != api.OK || !bytes.Equal(got, make([]byte, 300)) || !bytes.Equal(b, before) {
		t.Errorf("error %d, or other bytes", e)
	}
}

func TestDotIsTheSumOfTheProducts(t *testing.T) {
	if got, e := Dot([]byte{1, 2}, []byte{3, 4}); got != 11 || e != api.OK {
		t.Errorf("%d, error %d", got, e)
	}
	for i, n := range lengths {
		a, b := sample(uint32(2*i), n), sample(uint32(2*i+1), n)
		before, otherBefore := bytes.Clone(a), bytes.Clone(b)
		var want uint8
		for j := range a {
			want ^= plainProduct(a[j], b[j])
		}
		if got, e := Dot(a, b); got != want || e != api.OK {
			t.Errorf("of %d bytes: %d, error %d, not %d", n, got, e, want)
		}
		if !bytes.Equal(a, before) || !bytes.Equal(b, otherBefore) {
			t.Errorf("%d bytes that were handed in have changed", n)
		}
	}
}

func TestDotOfEachTwoBytes(t *testing.T) {
	plain := plainProducts()
	for a := range 256 {
		for b := range 256 {
			if got, e := Dot([]byte{byte(a)}, []byte{byte(b)}); got != plain[a][b] || e != api.OK {
				t.Fatalf("of %d and %d: %d, error %d", a, b, got, e)
			}
		}
	}
}

func TestDotOfUnlikeLengths(t *testing.T) {
	for _, p := range unlike() {
		if got, e := Dot(p[0], p[1]); got != 0 || e != api.ErrArg {
			t.Errorf("of %d and %d bytes: %d, error %d", len(p[0]), len(p[1]), got, e)
		}
	}
}

func TestDotOfNothing(t *testing.T) {
	for _, p := range [][2][]byte{{nil, nil}, {{}, {}}, {nil, {}}, {{}, nil}} {
		if got, e := Dot(p[0], p[1]); got != 0 || e != api.OK {
			t.Errorf("%d, error %d", got, e)
		}
	}
}

// P4.5

func TestOrderAndBracketsOfProducts(t *testing.T) {
	mul := products()
	for a := range 256 {
		for b := range 256 {
			ab := mul[a][b]
			if ab != mul[b][a] {
				t.Fatalf("%d and %d: the order counts", a, b)
			}
			if (ab == 0) != (a == 0 || b == 0) {
				t.Fatalf("%d times %d is %d", a, b, ab)
			}
			for c := range 256 {
				if mul[ab][c] != mul[a][mul[b][c]] {
					t.Fatalf("%d, %d, %d: the brackets count", a, b, c)
				}
				if mul[a][b^c] != ab^mul[a][c] {
					t.Fatalf("%d times the sum of %d and %d isn't the sum of the products", a, b, c)
				}
			}
		}
	}
}

func TestOrderOfSums(t *testing.T) {
	a, b, c := sample(6, 200), sample(7, 200), sample(8, 200)
	add := func(to []byte, x uint8, b []byte) []byte {
		sum, e := Add(to, x, b)
		if e != api.OK {
			t.Fatal(e)
		}
		return sum
	}
	if !bytes.Equal(add(a, 1, b), add(b, 1, a)) {
		t.Error("the order counts")
	}
	if !bytes.Equal(add(add(a, 1, b), 1, c), add(a, 1, add(b, 1, c))) {
		t.Error("the brackets count")
	}
	for x := range 256 {
		if !bytes.Equal(add(add(a, uint8(x), b), uint8(x), c), add(a, uint8(x), add(b, 1, c))) {
			t.Errorf("%d times a sum isn't the sum of the products", x)
		}
	}
}

func TestPowersOfTwoAreAllElements(t *testing.T) {
	seen := map[uint8]uint64{}
	for n := range uint64(255) {
		a := Pow(2, n)
		if before, ok := seen[a]; ok || a == 0 {
			t.Errorf("Pow(2, %d) is %d, as is Pow(2, %d)", n, a, before)
		}
		seen[a] = n
		if got, e := Log(a); uint64(got) != n || e != api.OK {
			t.Errorf("Log(Pow(2, %d)) is %d, error %d", n, got, e)
		}
	}
	if len(seen) != 255 {
		t.Errorf("the powers of 2 are %d elements", len(seen))
	}
}

func TestPowersAddUp(t *testing.T) {
	mul := products()
	times := []uint64{0, 1, 2, 3, 7, 8, 100, 253, 254, 255, 256, 510, 1000, 1<<32 - 1, 1 << 62, 1<<63 - 1}
	for a := range 256 {
		for _, n := range times {
			for _, m := range times {
				if got, want := mul[Pow(uint8(a), n)][Pow(uint8(a), m)], Pow(uint8(a), n+m); got != want {
					t.Fatalf("the powers %d and %d of %d are %d, not %d", n, m, a, got, want)
				}
			}
		}
	}
}
