package rs

import (
	"bytes"
	"math"
	"math/bits"
	"slices"
	"sync"
	"testing"

	"firkin/api"
	"firkin/gf"
)

// allProducts has the product of each two elements.
var allProducts = sync.OnceValue(func() *[256][256]uint8 {
	var out [256][256]uint8
	for a := range 256 {
		for b := range 256 {
			out[a][b] = gf.Mul(uint8(a), uint8(b))
		}
	}
	return &out
})

// plainInverse is the element whose product with a is 1.
func plainInverse(a int) uint8 {
	return uint8(slices.Index(allProducts()[a][:], 1))
}

// plainParity is the parity as the chapter's words tell it, place by place.
func plainParity(m int, data [][]byte) [][]byte {
	mul := allProducts()
	out := make([][]byte, m)
	for i := range out {
		out[i] = make([]byte, len(data[0]))
		for j, chunk := range data {
			cell := plainInverse((len(data) + i) ^ j)
			for at, x := range chunk {
				out[i][at] ^= mul[cell][x]
			}
		}
	}
	return out
}

// plainParts lays the parity behind the data.
func plainParts(m int, data [][]byte) [][]byte {
	return append(slices.Clone(data), plainParity(m, data)...)
}

// sample tells n bytes, others for each seed, the same in each run.
func sample(seed uint32, n int) []byte {
	out := make([]byte, n)
	for i := range out {
		seed = seed*1664525 + 1013904223
		out[i] = byte(seed >> 24)
	}
	return out
}

// sampleChunks tells so many chunks of n bytes, others for each seed.
func sampleChunks(seed uint32, count, n int) [][]byte {
	out := make([][]byte, count)
	all := sample(seed*7919+1, count*n)
	for i := range out {
		out[i] = bytes.Clone(all[i*n : (i+1)*n])
	}
	return out
}

// deepClone tells the same chunks in other memory.
func deepClone(chunks [][]byte) [][]byte {
	out := make([][]byte, len(chunks))
	for i, chunk := range chunks {
		out[i] = bytes.Clone(chunk)
	}
	return out
}

// sameChunks tells whether these are the same chunks; nil and empty are one.
func sameChunks(a, b [][]byte) bool {
	return slices.EqualFunc(a, b, bytes.Equal)
}

// trues tells n times that a part is good.
func trues(n int) []bool {
	return slices.Repeat([]bool{true}, n)
}

// masked tells which of n parts a mask has.
func masked(mask uint, n int) []bool {
	good := make([]bool, n)
	for i := range good {
		good[i] = mask>>i&1 == 1
	}
	return good
}

// mixed tells the numbers below n in another order for each seed.
func mixed(seed uint32, n int) []int {
	out := make([]int, n)
	for i := range out {
		out[i] = i
	}
	for i, x := range sample(seed, n) {
		j := (int(x)*n/256 + i) % n
		out[i], out[j] = out[j], out[i]
	}
	return out
}

// without tells which parts are good where the lost ones aren't.
func without(n int, lost []int) []bool {
	good := trues(n)
	for _, i := range lost {
		good[i] = false
	}
	return good
}

// spoilt puts what isn't right, of any length, where parts aren't good.
func spoilt(parts [][]byte, good []bool) [][]byte {
	out := slices.Clone(parts)
	for i := range out {
		if good[i] {
			continue
		}
		switch i % 4 {
		case 0:
			out[i] = nil
		case 1:
			out[i] = sample(uint32(i), len(parts[i]))
		case 2:
			out[i] = sample(uint32(i), len(parts[i])+1+i)
		case 3:
			out[i] = sample(uint32(i), len(parts[i])/2)
		}
	}
	return out
}

// shape is how many data and parities there are, and how many bytes a chunk has.
type shape struct{ k, m, n int }

// shapes are ordinary ones, and the edges of what may be.
func shapes() []shape {
	out := []shape{{4, 2, 64}, {3, 2, 5}, {10, 4, 255}, {10, 4, 256}, {10, 4, 257}, {5, 3, 4096}, {20, 20, 30},
		{1, 0, 3}, {255, 0, 2}, {1, 254, 2}, {254, 1, 2}, {128, 127, 3}, {127, 128, 3}, {200, 55, 1}, {55, 200, 1}, {100, 100, 0}}
	for k := 1; k <= 6; k++ {
		for m := range 6 {
			out = append(out, shape{k, m, 0}, shape{k, m, 1}, shape{k, m, 7})
		}
	}
	return out
}

// mayNotBe tells pairs of k and m that may not be.
func mayNotBe() [][2]int {
	return [][2]int{{0, 0}, {0, 1}, {0, 255}, {-1, 0}, {-1, 2}, {-1, 256}, {1, -1}, {2, -1}, {5, -5}, {256, -1}, {300, -45}, {1, 255}, {255, 1}, {256, 0}, {128, 128}, {2, 254},
		{math.MaxInt, 1}, {1, math.MaxInt}, {math.MaxInt, math.MaxInt}, {math.MinInt, 0}, {math.MinInt, math.MinInt}, {math.MinInt, math.MaxInt}, {math.MaxInt, math.MinInt}, {2, math.MinInt}, {math.MaxInt, 3 - math.MaxInt}, {3 - math.MaxInt, math.MaxInt}}
}

// refused checks that there is nothing beside the error.
func refused(t *testing.T, what string, got [][]byte, e, want api.Errno) {
	t.Helper()
	if e != want || len(got) != 0 {
		t.Errorf("%s: %d chunks, error %d, not %d", what, len(got), e, want)
	}
}

// P6.1

func TestParityOfTheExample(t *testing.T) {
	got, e := Parity(1, []byte{1, 2}, []byte{3, 4})
	want := [][]byte{{gf.Mul(142, 1) ^ gf.Mul(244, 3), gf.Mul(142, 2) ^ gf.Mul(244, 4)}}
	if e != api.OK || !sameChunks(got, want) {
		t.Errorf("%d, error %d, not %d", got, e, want)
	}
}

// Cauchy(1, m) has the inverses of 1, 2 and so on.
func TestParityOfOneChunk(t *testing.T) {
	got, e := Parity(4, []byte{1, 0, 2})
	want := [][]byte{{1, 0, 2}, {142, 0, 1}, {244, 0, 245}, {71, 0, 142}}
	if e != api.OK || !sameChunks(got, want) {
		t.Errorf("%d, error %d, not %d", got, e, want)
	}
}

func TestParityIsTheOneOfTheWords(t *testing.T) {
	for i, s := range shapes() {
		data := sampleChunks(uint32(i), s.k, s.n)
		got, e := Parity(s.m, data...)
		if e != api.OK || !sameChunks(got, plainParity(s.m, data)) {
			t.Errorf("%v: error %d, or other chunks", s, e)
		}
	}
}

func TestParityOfEachByte(t *testing.T) {
	each := make([]byte, 256)
	for i := range each {
		each[i] = byte(i)
	}
	data := [][]byte{each, sample(1, 256), each}
	slices.Reverse(data[1])
	got, e := Parity(3, data...)
	if e != api.OK || !sameChunks(got, plainParity(3, data)) {
		t.Errorf("error %d, or other chunks", e)
	}
}

func TestParityOfNone(t *testing.T) {
	for _, k := range []int{1, 2, 255} {
		got, e := Parity(0, sampleChunks(1, k, 3)...)
		refused(t, "no parity", got, e, api.OK)
	}
}

func TestParityOfEmptyChunks(t *testing.T) {
	for _, data := range [][][]byte{{nil}, {{}}, {nil, {}, nil}} {
		got, e := Parity(4, data...)
		if e != api.OK || !sameChunks(got, make([][]byte, 4)) {
			t.Errorf("%d, error %d", got, e)
		}
	}
}

func TestParityOfWhatMayNotBe(t *testing.T) {
	for _, c := range mayNotBe() {
		if c[0] < 0 || c[0] > 1000 {
			continue
		}
		for _, n := range []int{0, 1, 4} {
			got, e := Parity(c[1], sampleChunks(1, c[0], n)...)
			refused(t, "k and m", got, e, api.ErrArg)
		}
	}
}

func TestParityOfUnlikeData(t *testing.T) {
	for k := 2; k <= 6; k++ {
		for at := range k {
			for _, other := range [][]byte{nil, {1}, {1, 2}, {1, 2, 3, 4}} {
				for m := range 3 {
					data := sampleChunks(1, k, 3)
					data[at] = other
					got, e := Parity(m, data...)
					refused(t, "unlike data", got, e, api.ErrArg)
				}
			}
		}
	}
	got, e := Parity(1, nil, []byte{0})
	refused(t, "nothing and a byte", got, e, api.ErrArg)
}

// P6.2

func TestMendOfTheExample(t *testing.T) {
	a := []byte("some bytes")
	got, e := Mend(1, 1, [][]byte{a, nil}, []bool{true, false})
	if e != api.OK || !sameChunks(got, [][]byte{a, a}) {
		t.Errorf("%q, error %d", got, e)
	}
	got, e = Mend(1, 1, [][]byte{nil, a}, []bool{false, true})
	if e != api.OK || !sameChunks(got, [][]byte{a, a}) {
		t.Errorf("%q, error %d", got, e)
	}
}

// Each choice of good parts, of all small shapes.
func TestMendOfEachLoss(t *testing.T) {
	for k := 1; k <= 5; k++ {
		for m := range 5 {
			for _, n := range []int{0, 1, 6} {
				parts := plainParts(m, sampleChunks(uint32(k*m), k, n))
				for mask := range uint(1) << (k + m) {
					good := masked(mask, k+m)
					got, e := Mend(k, m, spoilt(parts, good), good)
					if bits.OnesCount(mask) < k {
						refused(t, "too few", got, e, api.ErrDamage)
					} else if e != api.OK || !sameChunks(got, parts) {
						t.Fatalf("%d and %d of %d bytes, good %v: error %d, or other chunks", k, m, n, good, e)
					}
				}
			}
		}
	}
}

func TestMendOfEachShape(t *testing.T) {
	for i, s := range shapes() {
		parts := plainParts(s.m, sampleChunks(uint32(i), s.k, s.n))
		order := mixed(uint32(i), s.k+s.m)
		for _, lost := range [][]int{order[:s.m], order[s.k:], order[:s.m/2], order[:0]} {
			good := without(s.k+s.m, lost)
			if got, e := Mend(s.k, s.m, spoilt(parts, good), good); e != api.OK || !sameChunks(got, parts) {
				t.Errorf("%v, lost %v: error %d, or other chunks", s, lost, e)
			}
		}
		good := without(s.k+s.m, order[:s.m+1])
		got, e := Mend(s.k, s.m, parts, good)
		refused(t, "one more lost", got, e, api.ErrDamage)
	}
}

// The first data lost, or the last, or all of them: just the parities are there.
func TestMendOfRowsOfLosses(t *testing.T) {
	for _, s := range []shape{{1, 1, 3}, {2, 2, 3}, {5, 5, 9}, {40, 40, 10}, {127, 128, 2}, {20, 5, 8}, {254, 1, 4}, {1, 254, 4}} {
		parts := plainParts(s.m, sampleChunks(uint32(s.k), s.k, s.n))
		few := min(s.k, s.m)
		for _, from := range []int{0, s.k - few, s.k - few/2, s.k, s.m} {
			good := trues(s.k + s.m)
			for i := from; i < min(from+s.m, s.k+s.m); i++ {
				good[i] = false
			}
			if got, e := Mend(s.k, s.m, spoilt(parts, good), good); e != api.OK || !sameChunks(got, parts) {
				t.Errorf("%v, lost from %d on: error %d, or other chunks", s, from, e)
			}
		}
	}
}

// Parts that are not those of any data: what is told has the first k good ones, and their parity.
func TestMendIsWhatTheFirstGoodOnesSay(t *testing.T) {
	tried := 0
	for i, s := range shapes() {
		for seed := range uint32(6) {
			parts := sampleChunks(uint32(i)+seed*1000, s.k+s.m, s.n)
			good := without(s.k+s.m, mixed(seed, s.k+s.m)[:int(seed)*s.m/5])
			got, e := Mend(s.k, s.m, spoilt(parts, good), good)
			if e != api.OK || len(got) != s.k+s.m {
				t.Errorf("%v: %d chunks, error %d", s, len(got), e)
				continue
			}
			had := 0
			for at := range got {
				if good[at] && had < s.k {
					had++
					if !bytes.Equal(got[at], parts[at]) {
						t.Errorf("%v: the part %d, one of the first good ones, is another one", s, at)
					}
				} else if good[at] && !bytes.Equal(got[at], parts[at]) {
					tried++
				}
			}
			if !sameChunks(got[s.k:], plainParity(s.m, got[:s.k])) {
				t.Errorf("%v: the parity is another one", s)
			}
		}
	}
	if tried < 100 {
		t.Errorf("%d parts behind the first k are mended: too few are tried", tried)
	}
}

func TestMendDoesNotAskGoodOnesBehind(t *testing.T) {
	parts := plainParts(3, sampleChunks(1, 3, 5))
	for _, lost := range [][]int{{}, {0}, {1}, {0, 2}, {3}, {0, 4}} {
		good := without(6, lost)
		now := slices.Clone(parts)
		last := 5
		now[last] = sample(9, 5)
		if got, e := Mend(3, 3, now, good); e != api.OK || !sameChunks(got, parts) {
			t.Errorf("lost %v: error %d, or other chunks", lost, e)
		}
		for _, n := range []int{0, 4, 6} {
			now[last] = sample(9, n)
			got, e := Mend(3, 3, now, good)
			refused(t, "the length of one behind", got, e, api.ErrArg)
		}
		now[last], good[last] = sample(9, 4), false
		if got, e := Mend(3, 3, now, good); e != api.OK || !sameChunks(got, parts) {
			t.Errorf("lost %v, and the last: error %d, or other chunks", lost, e)
		}
	}
}

func TestMendOfUnlikeParts(t *testing.T) {
	for k := 1; k <= 4; k++ {
		for m := range 4 {
			for at := range k + m {
				for _, n := range []int{0, 2, 4} {
					parts := plainParts(m, sampleChunks(1, k, 3))
					parts[at] = sample(1, n)
					got, e := Mend(k, m, parts, trues(k+m))
					if k+m == 1 {
						if e != api.OK || !sameChunks(got, parts) {
							t.Errorf("one part of %d bytes: error %d", n, e)
						}
						continue
					}
					refused(t, "unlike parts", got, e, api.ErrArg)
				}
			}
		}
	}
}

// Two that are good and unlike are told ahead of there being too few.
func TestMendTellsUnlikePartsFirst(t *testing.T) {
	parts := [][]byte{{1, 2}, {1}, {1, 2}, {1, 2}, nil}
	for _, c := range []struct {
		good []bool
		e    api.Errno
	}{
		{[]bool{true, true, false, false, false}, api.ErrArg}, {[]bool{false, true, true, false, false}, api.ErrArg}, {[]bool{false, true, false, false, true}, api.ErrArg},
		{[]bool{true, false, true, false, false}, api.ErrDamage}, {[]bool{false, true, false, false, false}, api.ErrDamage}, {make([]bool, 5), api.ErrDamage},
	} {
		got, e := Mend(3, 2, parts, c.good)
		refused(t, "too few", got, e, c.e)
	}
}

func TestMendOfWhatMayNotBe(t *testing.T) {
	for _, c := range mayNotBe() {
		for _, count := range []int{0, 1, 3, 255, 256, c[0] + c[1]} {
			if count < 0 || count > 1000 {
				continue
			}
			got, e := Mend(c[0], c[1], sampleChunks(1, count, 2), trues(count))
			refused(t, "k and m", got, e, api.ErrArg)
			got, e = Mend(c[0], c[1], sampleChunks(1, count, 2), make([]bool, count))
			refused(t, "k and m, none good", got, e, api.ErrArg)
		}
	}
}

func TestMendOfOtherCounts(t *testing.T) {
	for _, c := range []shape{{1, 0, 2}, {2, 1, 2}, {3, 2, 2}, {200, 55, 1}} {
		all := c.k + c.m
		for _, counts := range [][2]int{{all - 1, all}, {all + 1, all}, {all, all - 1}, {all, all + 1}, {all - 1, all - 1}, {all + 1, all + 1}, {0, 0}, {0, all}, {all, 0}, {all - 1, all + 1}} {
			for _, is := range []bool{true, false} {
				good := slices.Repeat([]bool{is}, counts[1])
				got, e := Mend(c.k, c.m, sampleChunks(1, counts[0], c.n), good)
				refused(t, "counts", got, e, api.ErrArg)
			}
		}
	}
	got, e := Mend(2, 1, nil, nil)
	refused(t, "nothing", got, e, api.ErrArg)
}

func TestMendOfEmptyChunks(t *testing.T) {
	for _, parts := range [][][]byte{{nil, nil, nil}, {{}, nil, {}}, {nil, {}, {1}}} {
		got, e := Mend(2, 1, parts, []bool{true, true, false})
		if e != api.OK || !sameChunks(got, make([][]byte, 3)) {
			t.Errorf("%d, error %d", got, e)
		}
		got, e = Mend(1, 2, parts, []bool{false, true, false})
		if e != api.OK || !sameChunks(got, make([][]byte, 3)) {
			t.Errorf("%d, error %d", got, e)
		}
	}
}

// P6.3

func TestRightOfParts(t *testing.T) {
	for i, s := range shapes() {
		if !Right(s.k, s.m, plainParts(s.m, sampleChunks(uint32(i), s.k, s.n))) {
			t.Errorf("%v: not right", s)
		}
	}
	if !Right(2, 1, [][]byte{nil, {}, nil}) || !Right(1, 1, [][]byte{{7}, {7}}) || !Right(3, 0, [][]byte{{1}, {2}, {3}}) {
		t.Error("not right")
	}
}

func TestRightOfChangedParts(t *testing.T) {
	for k := 1; k <= 4; k++ {
		for m := 1; m <= 4; m++ {
			parts := plainParts(m, sampleChunks(uint32(k), k, 3))
			for at := range parts {
				for place := range 3 {
					for _, x := range []byte{1, 2, 128, 255} {
						parts[at][place] ^= x
						if Right(k, m, parts) {
							t.Errorf("%d and %d: right, but part %d is changed at %d", k, m, at, place)
						}
						parts[at][place] ^= x
					}
				}
			}
		}
	}
}

func TestRightOfPartsInAnotherOrder(t *testing.T) {
	parts := plainParts(2, [][]byte{{1, 2}, {3, 4}})
	for i := range parts {
		for j := range i {
			now := slices.Clone(parts)
			now[i], now[j] = now[j], now[i]
			if Right(2, 2, now) {
				t.Errorf("parts %d and %d are swapped", i, j)
			}
		}
	}
}

func TestRightOfUnlikeParts(t *testing.T) {
	for k := 1; k <= 3; k++ {
		for m := range 4 {
			for at := range k + m {
				for _, n := range []int{0, 2, 4} {
					parts := plainParts(m, make([][]byte, k))
					for i := range parts {
						parts[i] = make([]byte, 3)
					}
					parts[at] = make([]byte, n)
					if Right(k, m, parts) != (k+m == 1) {
						t.Errorf("%d and %d, part %d of %d bytes", k, m, at, n)
					}
				}
			}
		}
	}
}

func TestRightOfWhatMayNotBe(t *testing.T) {
	for _, c := range mayNotBe() {
		for _, count := range []int{0, 1, 3, 255, 256, c[0] + c[1]} {
			if count < 0 || count > 1000 {
				continue
			}
			if Right(c[0], c[1], slices.Repeat([][]byte{{0}}, count)) {
				t.Errorf("%d parts of %d and %d are right", count, c[0], c[1])
			}
		}
	}
	for _, count := range []int{0, 1, 2, 4, 5} {
		if Right(2, 1, make([][]byte, count)) {
			t.Errorf("%d parts are right", count)
		}
	}
}

// P6.4

func TestWhatIsLostIsMended(t *testing.T) {
	for i, s := range shapes() {
		data := sampleChunks(uint32(i), s.k, s.n)
		parity, e := Parity(s.m, data...)
		if e != api.OK {
			t.Fatalf("%v: error %d", s, e)
		}
		parts := append(data, parity...)
		for seed := range uint32(4) {
			lost := mixed(seed, len(parts))[:s.m-int(seed)%(s.m+1)]
			good := without(len(parts), lost)
			got, e := Mend(s.k, s.m, spoilt(parts, good), good)
			if e != api.OK || !sameChunks(got, parts) || !Right(s.k, s.m, got) {
				t.Errorf("%v, lost %v: error %d, or other chunks", s, lost, e)
			}
		}
	}
}

func TestParityOfASum(t *testing.T) {
	for i, s := range shapes() {
		a, b := sampleChunks(uint32(i), s.k, s.n), sampleChunks(uint32(i+1000), s.k, s.n)
		first, _ := Parity(s.m, a...)
		second, _ := Parity(s.m, b...)
		both, e := Parity(s.m, sums(a, b)...)
		if e != api.OK || !sameChunks(both, sums(first, second)) {
			t.Errorf("%v: error %d, or other chunks", s, e)
		}
	}
}

// sums xors chunks.
func sums(a, b [][]byte) [][]byte {
	out := deepClone(a)
	for i := range out {
		for j := range out[i] {
			out[i][j] ^= b[i][j]
		}
	}
	return out
}

// Memory

// roomy tells the same chunks in one memory, each with spare room behind it that is the next one's.
func roomy(chunks [][]byte) (out [][]byte, room []byte) {
	for _, chunk := range chunks {
		room = append(append(room, chunk...), 1, 2, 3)
	}
	at := 0
	for _, chunk := range chunks {
		out = append(out, room[at:at+len(chunk)])
		at += len(chunk) + 3
	}
	return out, room
}

// overwrite changes what is told, and the room behind it.
func overwrite(chunk []byte) {
	all := chunk[:cap(chunk)]
	for i := range all {
		all[i] = 0xEE
	}
}

// overwriteAll changes chunks, the list of them, and the room behind it.
func overwriteAll(chunks [][]byte) {
	for _, chunk := range chunks {
		overwrite(chunk)
	}
	all := chunks[:cap(chunks)]
	for i := range all {
		all[i] = []byte("another")
	}
}

func TestWhatIsHandedInStays(t *testing.T) {
	for _, s := range []shape{{1, 1, 1}, {3, 2, 4}, {4, 4, 9}, {2, 0, 3}, {2, 2, 0}} {
		for _, lost := range []int{0, s.m} {
			chunks, room := roomy(plainParts(s.m, sampleChunks(1, s.k, s.n)))
			parts := append(chunks, []byte("behind"))[:s.k+s.m]
			before, kept := deepClone(parts[:s.k+s.m+1]), bytes.Clone(room)
			good := without(s.k+s.m, mixed(3, s.k+s.m)[:lost])
			goodBefore := slices.Clone(good)
			for _, call := range []func() ([][]byte, api.Errno){
				func() ([][]byte, api.Errno) { return Parity(s.m, parts[:s.k]...) },
				func() ([][]byte, api.Errno) { return Mend(s.k, s.m, parts, good) },
			} {
				got, e := call()
				again, _ := call()
				want := deepClone(got)
				overwriteAll(again)
				Right(s.k, s.m, parts)
				if e != api.OK || !sameChunks(got, want) || !sameChunks(parts[:s.k+s.m+1], before) || !bytes.Equal(room, kept) || !slices.Equal(good, goodBefore) {
					t.Errorf("%v: error %d, or memory is shared", s, e)
				}
				for i := range room {
					room[i] ^= 0xFF
				}
				if !sameChunks(got, want) {
					t.Errorf("%v: memory is kept", s)
				}
				copy(room, kept)
			}
		}
	}
}

func TestWhatIsToldSharesNothing(t *testing.T) {
	for _, lost := range [][]int{{}, {0}, {1, 3}, {4, 5}, {0, 1, 2}, {3, 4, 5}} {
		parts := plainParts(3, sampleChunks(1, 3, 4))
		got, e := Mend(3, 3, parts, without(6, lost))
		if e != api.OK {
			t.Fatalf("lost %v: error %d", lost, e)
		}
		for i := range got {
			overwrite(got[i])
			if !sameChunks(got[i+1:], parts[i+1:]) {
				t.Errorf("lost %v: chunk %d shares memory", lost, i)
			}
		}
	}
	got, _ := Parity(3, []byte{1, 2}, []byte{3, 4})
	want := deepClone(got)
	overwrite(got[0])
	if !sameChunks(got[1:], want[1:]) {
		t.Error("parities share memory")
	}
}

func TestTheSameChunkManyTimes(t *testing.T) {
	b := sample(3, 5)
	want := plainParts(2, [][]byte{b, b, b})
	parity, e := Parity(2, b, b, b)
	if e != api.OK || !sameChunks(parity, want[3:]) {
		t.Errorf("error %d, or other chunks", e)
	}
	got, e := Mend(3, 2, [][]byte{b, b, b, b, b}, []bool{true, true, true, true, true})
	if e != api.OK || !sameChunks(got, want) {
		t.Errorf("error %d, or other chunks", e)
	}
	overwrite(got[0])
	if !sameChunks(got[1:], want[1:]) {
		t.Error("chunks that are the same share memory")
	}
}
