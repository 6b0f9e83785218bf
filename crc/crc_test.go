package crc

import (
	"bytes"
	"math"
	"testing"

	"firkin/api"
)

// oneShift is a single shift of the document, with its xor.
func oneShift(x uint32) uint32 {
	if x&1 == 1 {
		return x>>1 ^ 0xEDB88320
	}
	return x >> 1
}

func shifts(x uint32, n int) uint32 {
	for range n {
		x = oneShift(x)
	}
	return x
}

// plainSum is the sum as the document's words tell it, bit by bit.
func plainSum(b []byte) uint32 {
	register := uint32(math.MaxUint32)
	for _, x := range b {
		register = shifts(register^uint32(x), 8)
	}
	return ^register
}

// sample tells n bytes, others for each seed, the same in each run.
func sample(seed uint32, n int) []byte {
	out := make([]byte, n)
	for i := range out {
		seed = seed*1664525 + 1013904223
		out[i] = byte(seed >> 24)
	}
	return out
}

// samples tells lists of many lengths, with all 256 bytes among them.
func samples() [][]byte {
	out := [][]byte{nil, {}}
	for x := range 256 {
		out = append(out, []byte{byte(x)})
	}
	for n := range 70 {
		out = append(out, make([]byte, n), bytes.Repeat([]byte{0xFF}, n), sample(uint32(n), n))
	}
	return append(out, sample(1, 1000), sample(2, 65537))
}

// P1.1

func TestSumOfTheExamples(t *testing.T) {
	for _, c := range []struct {
		b    []byte
		want uint32
	}{
		{[]byte("123456789"), 0xCBF43926},
		{nil, 0},
		{[]byte{}, 0},
		{[]byte{0}, 0xD202EF8D},
		{[]byte("a"), 0xE8B7BE43},
		{[]byte("The quick brown fox jumps over the lazy dog"), 0x414FA339},
		{make([]byte, 32), 0x190A55AD},
		{bytes.Repeat([]byte{0xFF}, 32), 0xFF6CAB0B},
	} {
		if got := Sum(c.b); got != c.want {
			t.Errorf("Sum(%q) is %#x, not %#x", c.b, got, c.want)
		}
	}
}

func TestSumIsTheOneOfTheWords(t *testing.T) {
	for _, b := range samples() {
		if got, want := Sum(b), plainSum(b); got != want {
			t.Errorf("Sum of %d bytes is %#x, not %#x", len(b), got, want)
		}
	}
}

func TestTableIsFourShifts(t *testing.T) {
	for i, x := range fourShifts {
		if want := shifts(uint32(i), 4); x != want {
			t.Errorf("fourShifts[%d] is %#x, not %#x", i, x, want)
		}
	}
}

// P1.2

func TestMoreOfNoBytesIsTheSumItself(t *testing.T) {
	for _, sum := range []uint32{0, 1, 7, 0xCBF43926, 0x80000000, math.MaxUint32} {
		if More(sum) != sum || More(sum, nil) != sum || More(sum, []byte{}, nil) != sum {
			t.Errorf("More(%#x) of no bytes isn't the sum", sum)
		}
	}
}

func TestMoreGoesOnFromASum(t *testing.T) {
	whole := sample(3, 100)
	want := plainSum(whole)
	for i := range len(whole) + 1 {
		if got := More(Sum(whole[:i]), whole[i:]); got != want {
			t.Errorf("cut at %d: %#x, not %#x", i, got, want)
		}
		for j := i; j <= len(whole); j++ {
			if got := More(0, whole[:i], whole[i:j], nil, whole[j:]); got != want {
				t.Errorf("cut at %d and %d: %#x, not %#x", i, j, got, want)
			}
		}
	}
}

func TestMoreKeepsTheOrderOfItsParts(t *testing.T) {
	if got, want := More(0, []byte("b"), []byte("a")), plainSum([]byte("ba")); got != want {
		t.Errorf("%#x, not %#x", got, want)
	}
}

// P1.3

func TestPutLaysTheSumBehindLowestByteFirst(t *testing.T) {
	if got, want := Put([]byte("123456789")), []byte("123456789\x26\x39\xF4\xCB"); !bytes.Equal(got, want) {
		t.Errorf("% x, not % x", got, want)
	}
	if got := Put(nil); !bytes.Equal(got, make([]byte, 4)) {
		t.Errorf("of nothing: % x", got)
	}
	for _, b := range samples() {
		s := plainSum(b)
		want := append(bytes.Clone(b), byte(s), byte(s>>8), byte(s>>16), byte(s>>24))
		if got := Put(b); !bytes.Equal(got, want) {
			t.Errorf("of %d bytes: the end is % x", len(b), got[len(b):])
		}
	}
}

func TestPutLeavesItsBytesAndTheirSpareRoom(t *testing.T) {
	room := []byte("abcdefghij")
	got := Put(room[:3])
	if string(room) != "abcdefghij" {
		t.Errorf("changed to %q", room)
	}
	got[0] = 'x'
	if room[0] != 'a' {
		t.Error("the answer shares memory")
	}
}

// P1.4

func TestCutTellsTheBytesAhead(t *testing.T) {
	got, e := Cut([]byte("123456789\x26\x39\xF4\xCB"))
	if e != api.OK || string(got) != "123456789" {
		t.Errorf("%q, error %d", got, e)
	}
	if got, e := Cut(make([]byte, 4)); e != api.OK || len(got) != 0 {
		t.Errorf("of the sum of nothing: % x, error %d", got, e)
	}
}

func TestCutOfFewerThanFourBytes(t *testing.T) {
	for n := range 4 {
		for _, b := range [][]byte{make([]byte, n), sample(4, n)} {
			if got, e := Cut(b); e != api.ErrShort || len(got) != 0 {
				t.Errorf("of %d bytes: % x, error %d", n, got, e)
			}
		}
	}
}

func TestCutOfAWrongSum(t *testing.T) {
	for _, b := range [][]byte{
		[]byte("123456789\xCB\xF4\x39\x26"),
		[]byte("123456788\x26\x39\xF4\xCB"),
		[]byte("23456789\x26\x39\xF4\xCB"),
		[]byte("123456789\x26\x39\xF4\xCA"),
		[]byte("123456789\x27\x39\xF4\xCB"),
		{0, 0, 0, 1},
		{1, 0, 0, 0},
		{0, 0, 0, 0, 0},
	} {
		if got, e := Cut(b); e != api.ErrSum || len(got) != 0 {
			t.Errorf("of % x: % x, error %d", b, got, e)
		}
	}
}

func TestCutTellsNewMemory(t *testing.T) {
	b := []byte("123456789\x26\x39\xF4\xCB")
	before := bytes.Clone(b)
	got, _ := Cut(b)
	got[0] = 'x'
	_ = append(got, 'y', 'y', 'y', 'y')
	if !bytes.Equal(b, before) {
		t.Errorf("the bytes are now %q", b)
	}
}

// P1.5

func TestJoinIsTheSumOfBoth(t *testing.T) {
	whole := sample(5, 600)
	want := plainSum(whole)
	for i := range len(whole) + 1 {
		if got := Join(Sum(whole[:i]), Sum(whole[i:]), len(whole)-i); got != want {
			t.Errorf("cut at %d: %#x, not %#x", i, got, want)
		}
	}
}

func TestJoinOfAnySums(t *testing.T) {
	for _, a := range []uint32{0, 1, 9, 0x80000000, 0xEDB88320, 0xDEADBEEF, math.MaxUint32} {
		for _, b := range []uint32{0, 5, 0x12345678, math.MaxUint32} {
			for n := range 40 {
				if got, want := Join(a, b, n), shifts(a, 8*n)^b; got != want {
					t.Errorf("Join(%#x, %#x, %d) is %#x, not %#x", a, b, n, got, want)
				}
			}
		}
	}
}

func TestJoinOfNoBytesAndFewer(t *testing.T) {
	if got := Join(9, 5, 0); got != 12 {
		t.Errorf("of none: %d, not 12", got)
	}
	for _, n := range []int{-1, -2, -8, math.MinInt32, math.MinInt} {
		if got := Join(9, 5, n); got != 0 {
			t.Errorf("of %d: %d, not 0", n, got)
		}
	}
}

// 2^32 - 1 shifts leave each number as it is (of the powers of x none sooner is 1),
// so that n may be told by what is left of it.
func TestJoinOfManyBytes(t *testing.T) {
	const round = math.MaxUint32
	for _, a := range []uint32{0, 1, 0xCBF43926, math.MaxUint32} {
		for _, c := range []struct{ n, left int }{
			{round, 0},
			{round + 3, 3},
			{5*round + 17, 17},
			{1 << 62, 1 << 30},
			{math.MaxInt, 1<<31 - 1},
		} {
			if got, want := Join(a, 7, c.n), Join(a, 7, c.left); got != want {
				t.Errorf("Join(%#x, 7, %d) is %#x, not %#x", a, c.n, got, want)
			}
		}
		if got := Join(a, 7, round+3); got != shifts(a, 24)^7 {
			t.Errorf("Join(%#x) of a round and three: %#x", a, got)
		}
	}
	million := make([]byte, 1<<20)
	if got, want := Join(Sum([]byte("ab")), Sum(million), 1<<20), More(Sum([]byte("ab")), million); got != want {
		t.Errorf("%#x, not %#x", got, want)
	}
}

// P1.6

func TestCutOfPutIsTheSame(t *testing.T) {
	for _, b := range samples() {
		if got, e := Cut(Put(b)); e != api.OK || !bytes.Equal(got, b) {
			t.Errorf("of %d bytes: %d come back, error %d", len(b), len(got), e)
		}
	}
}

// turned tells the bytes with n bits turned, from the bit at on.
func turned(b []byte, at, n int) []byte {
	out := bytes.Clone(b)
	for i := at; i < at+n; i++ {
		out[i/8] ^= 1 << (i % 8)
	}
	return out
}

func TestTurnedBitsSideBySideAreSeen(t *testing.T) {
	for size := range 20 {
		p := Put(sample(uint32(size), size))
		for n := 1; n <= 32; n++ {
			for at := 0; at+n <= 8*len(p); at++ {
				if got, e := Cut(turned(p, at, n)); e != api.ErrSum || len(got) != 0 {
					t.Fatalf("of %d bytes, %d bits from %d: error %d", size, n, at, e)
				}
			}
		}
	}
}

func TestSumOfThreeXoredLists(t *testing.T) {
	for n := range 300 {
		a, b, c := sample(6, n), sample(7, n), sample(8, n)
		all := make([]byte, n)
		for i := range all {
			all[i] = a[i] ^ b[i] ^ c[i]
		}
		if got, want := Sum(all), Sum(a)^Sum(b)^Sum(c); got != want {
			t.Errorf("of %d bytes: %#x, not %#x", n, got, want)
		}
	}
}

func TestNothingThatIsHandedInChanges(t *testing.T) {
	b := Put(sample(9, 50))
	before := bytes.Clone(b)
	Sum(b)
	More(1, b, b)
	Put(b)
	Cut(b)
	Cut(b[:20])
	if !bytes.Equal(b, before) {
		t.Error("bytes that were handed in have changed")
	}
}
