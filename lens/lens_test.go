package lens

import (
	"math"
	"slices"
	"testing"

	"firkin/api"
)

// sample tells n numbers, others for each seed, the same in each run.
func sample(seed uint32, n int) []uint32 {
	out := make([]uint32, n)
	for i := range out {
		seed = seed*1664525 + 1013904223
		out[i] = seed>>16 | seed<<16
	}
	return out
}

// below tells n numbers below a bound, others for each seed.
func below(seed uint32, n int, bound uint32) []uint32 {
	out := sample(seed, n)
	for i := range out {
		out[i] %= bound
	}
	return out
}

// each tells what a function says of the numbers below n.
func each(n int, of func(i int) uint32) []uint32 {
	out := make([]uint32, n)
	for i := range out {
		out[i] = of(i)
	}
	return out
}

// usedOf tells how many symbols are used.
func usedOf(often []uint32) int {
	used := 0
	for _, n := range often {
		if n > 0 {
			used++
		}
	}
	return used
}

// plainItem is an item as the chapter's words tell it.
type plainItem struct {
	weight  uint64
	symbols []int
}

// plainLeaves are the leaves as the chapter's words tell them: the least one that is left is the next.
func plainLeaves(often []uint32) []plainItem {
	var leaves []plainItem
	taken := make([]bool, len(often))
	for range usedOf(often) {
		least := -1
		for symbol, n := range often {
			if n > 0 && !taken[symbol] && (least < 0 || n < often[least]) {
				least = symbol
			}
		}
		taken[least] = true
		leaves = append(leaves, plainItem{uint64(often[least]), []int{least}})
	}
	return leaves
}

// plainNext is the row behind a row, as the chapter's words tell it.
func plainNext(leaves, row []plainItem) []plainItem {
	next := slices.Clone(leaves)
	for i := 0; i+1 < len(row); i += 2 {
		a, b := row[i], row[i+1]
		next = append(next, plainItem{a.weight + b.weight, slices.Concat(a.symbols, b.symbols)})
	}
	slices.SortStableFunc(next, func(a, b plainItem) int {
		if a.weight < b.weight {
			return -1
		}
		if a.weight > b.weight {
			return 1
		}
		return 0
	})
	return next
}

// plainLens are the lengths as the chapter's words tell them.
func plainLens(often []uint32, limit int) []uint8 {
	lens := make([]uint8, len(often))
	leaves := plainLeaves(often)
	switch len(leaves) {
	case 0:
		return lens
	case 1:
		lens[leaves[0].symbols[0]] = 1
		return lens
	}
	row := leaves
	for range limit - 1 {
		row = plainNext(leaves, row)
	}
	for _, x := range row[:2*len(leaves)-2] {
		for _, symbol := range x.symbols {
			lens[symbol]++
		}
	}
	return lens
}

// oftens tells ordinary counts of symbols, and the edges of what may be.
func oftens() [][]uint32 {
	out := [][]uint32{
		nil, {}, {0}, {1}, {math.MaxUint32}, {0, 0, 0}, {0, 7}, {7, 0}, {0, 7, 0}, {1, 1}, {1, 0, 1}, {math.MaxUint32, 1}, {math.MaxUint32, math.MaxUint32},
		{1, 1, 1}, {5, 1, 1, 2}, {1, 2, 3, 3, 5, 8}, {1, 1, 2, 2, 4, 4, 8, 8}, {3, 3, 3, 2, 2, 2, 1, 1, 1},
		make([]uint32, 299), make([]uint32, 300),
	}
	one := make([]uint32, 300)
	one[299] = 3
	two := slices.Clone(one)
	two[0] = 3
	out = append(out, one, two)
	for _, n := range []int{2, 3, 4, 5, 7, 8, 9, 12, 15, 16, 17, 30, 31, 32, 33, 64, 65, 127, 128, 129, 255, 256, 257, 265, 299, 300} {
		out = append(out,
			each(n, func(i int) uint32 { return 1 }),
			each(n, func(i int) uint32 { return math.MaxUint32 }),
			each(n, func(i int) uint32 { return math.MaxUint32 - uint32(i%3) }),
			each(n, func(i int) uint32 { return uint32(i) }),
			each(n, func(i int) uint32 { return uint32(n - i) }),
			each(n, func(i int) uint32 { return 1 << min(i, 31) }),
			each(n, func(i int) uint32 { return 1 << (i % 32) }),
			each(n, func(i int) uint32 { return uint32(10000 / (i + 1)) }),
			growing(n),
			sample(uint32(n), n), below(uint32(n), n, 2), below(uint32(n), n, 3), below(uint32(n), n, 20), below(uint32(n), n, 1000),
		)
	}
	return out
}

// growing tells numbers that are each the sum of the two ahead, as far as they go: their words are the longest.
func growing(n int) []uint32 {
	a, b := uint64(1), uint64(1)
	return each(n, func(i int) uint32 {
		now := uint32(min(a, math.MaxUint32))
		a, b = b, min(a+b, math.MaxUint32)
		return now
	})
}

// forEach calls for each count and limit that may be together.
func forEach(call func(often []uint32, limit int)) {
	for _, often := range oftens() {
		for limit := 1; limit <= 15; limit++ {
			if usedOf(often) <= 1<<limit {
				call(often, limit)
			}
		}
	}
}

// told fails, if the lengths are refused.
func told(t *testing.T, often []uint32, limit int) []uint8 {
	t.Helper()
	lens, e := Lens(often, limit)
	if e != api.OK || len(lens) != len(often) {
		t.Fatalf("%d, limit %d: %d lengths, error %d", often, limit, len(lens), e)
	}
	return lens
}

// refused fails, if there is a length beside the error, or another error.
func refused(t *testing.T, often []uint32, limit int, want api.Errno) {
	t.Helper()
	lens, e := Lens(often, limit)
	if e != want || len(lens) != 0 {
		t.Errorf("%d symbols, limit %d: %d lengths, error %d, not %d", len(often), limit, len(lens), e, want)
	}
}

// P7.1

func TestLensOfTheExamples(t *testing.T) {
	for _, c := range []struct {
		often []uint32
		limit int
		want  []uint8
	}{
		{[]uint32{5, 1, 1, 2}, 15, []uint8{1, 3, 3, 2}},
		{[]uint32{5, 1, 1, 2}, 3, []uint8{1, 3, 3, 2}},
		{[]uint32{5, 1, 1, 2}, 2, []uint8{2, 2, 2, 2}},
		{[]uint32{0, 7}, 15, []uint8{0, 1}},
	} {
		if got := told(t, c.often, c.limit); !slices.Equal(got, c.want) {
			t.Errorf("%d, limit %d: %d, not %d", c.often, c.limit, got, c.want)
		}
	}
	refused(t, []uint32{1, 1, 1}, 1, api.ErrLimit)
}

func TestLensAreThoseOfTheWords(t *testing.T) {
	forEach(func(often []uint32, limit int) {
		got, want := told(t, often, limit), plainLens(often, limit)
		if !slices.Equal(got, want) {
			t.Errorf("%d, limit %d: %d, not %d", often, limit, got, want)
		}
	})
}

// Each count of a few symbols, so that each way in which weights may be equal is there.
func TestLensOfAllSmallCounts(t *testing.T) {
	for n, bound := range map[int]int{1: 9, 2: 9, 3: 9, 4: 7, 5: 5, 6: 4, 7: 3} {
		all := 1
		for range n {
			all *= bound
		}
		for x := range all {
			often := make([]uint32, n)
			for i := range often {
				often[i], x = uint32(x%bound), x/bound
			}
			for limit := 1; limit <= 7; limit++ {
				if usedOf(often) > 1<<limit {
					refused(t, often, limit, api.ErrLimit)
				} else if got := told(t, often, limit); !slices.Equal(got, plainLens(often, limit)) {
					t.Errorf("%d, limit %d: %d", often, limit, got)
				}
			}
		}
	}
}

func TestLensOfNoneAndOfOne(t *testing.T) {
	for _, n := range []int{0, 1, 2, 100, 300} {
		for limit := 1; limit <= 15; limit++ {
			want := make([]uint8, n)
			if got := told(t, make([]uint32, n), limit); !slices.Equal(got, want) {
				t.Errorf("none of %d, limit %d: %d", n, limit, got)
			}
			for _, at := range []int{0, n / 2, n - 1} {
				for _, times := range []uint32{1, 2, math.MaxUint32} {
					if n == 0 {
						continue
					}
					often, want := make([]uint32, n), make([]uint8, n)
					often[at], want[at] = times, 1
					if got := told(t, often, limit); !slices.Equal(got, want) {
						t.Errorf("symbol %d of %d alone, limit %d: %d", at, n, limit, got)
					}
				}
			}
		}
	}
}

// As many as the limit allows have all the same length; one more is refused.
func TestLensAtTheLimit(t *testing.T) {
	for limit := 1; limit <= 8; limit++ {
		for _, room := range []int{0, 1, 40} {
			n := 1 << limit
			often := append(make([]uint32, room), growing(n)...)
			for i, x := range told(t, often, limit) {
				if i < room && x != 0 || i >= room && int(x) != limit {
					t.Errorf("symbol %d of %d, limit %d: length %d", i, len(often), limit, x)
				}
			}
			refused(t, append(often, 1), limit, api.ErrLimit)
			told(t, append(often, 0), limit)
			told(t, append(often, 1), limit+1)
		}
	}
	for n := 257; n <= 300; n++ {
		refused(t, growing(n), 8, api.ErrLimit)
		told(t, growing(n), 9)
	}
}

func TestLensOfTooManySymbols(t *testing.T) {
	for _, n := range []int{301, 302, 512, 32769, 65536 + 5} {
		for _, limit := range []int{-1, 0, 1, 8, 9, 15, 16} {
			refused(t, make([]uint32, n), limit, api.ErrArg)
			refused(t, growing(n), limit, api.ErrArg)
		}
	}
	told(t, growing(300), 15)
}

// A limit that may not be is told ahead of too many that are used.
func TestLensOfOtherLimits(t *testing.T) {
	for _, limit := range []int{math.MinInt, math.MinInt32, -64, -15, -1, 0, 16, 17, 31, 32, 33, 63, 64, 65, 256 + 3, 1<<32 + 3, math.MaxInt32, math.MaxInt} {
		for _, often := range oftens() {
			refused(t, often, limit, api.ErrArg)
		}
	}
}

// P7.2

func TestKraftOfTheWords(t *testing.T) {
	for _, c := range []struct {
		lens []uint8
		want int
	}{
		{nil, 0}, {[]uint8{}, 0}, {[]uint8{0}, 0}, {make([]uint8, 300), 0}, {[]uint8{1}, 16384}, {[]uint8{15}, 1}, {[]uint8{14, 15}, 3}, {[]uint8{1, 1}, 32768},
		{[]uint8{1, 3, 3, 2}, 32768}, {[]uint8{1, 0, 3, 3, 0, 2, 0}, 32768}, {[]uint8{2, 2, 2}, 24576}, {[]uint8{1, 1, 1}, 49152},
		{slices.Repeat([]uint8{1}, 300), 300 * 16384}, {slices.Repeat([]uint8{15}, 300), 300}, {slices.Repeat([]uint8{8}, 256), 32768},
	} {
		if got, e := Kraft(c.lens); got != c.want || e != api.OK {
			t.Errorf("%d: %d, error %d, not %d", c.lens, got, e, c.want)
		}
	}
	for n := 1; n <= 15; n++ {
		if got, e := Kraft([]uint8{0, uint8(n)}); got*(1<<n) != 32768 || e != api.OK {
			t.Errorf("length %d: %d, error %d", n, got, e)
		}
	}
}

func TestKraftIsASum(t *testing.T) {
	for n := range 301 {
		lens := make([]uint8, n)
		want := 0
		for i, x := range below(uint32(n), n, 16) {
			lens[i] = uint8(x)
			if x > 0 {
				want += 32768 / (1 << x)
			}
		}
		if got, e := Kraft(lens); got != want || e != api.OK {
			t.Errorf("%d: %d, error %d, not %d", lens, got, e, want)
		}
	}
}

func TestKraftOfWhatMayNotBe(t *testing.T) {
	wrong := [][]uint8{make([]uint8, 301), make([]uint8, 302), make([]uint8, 556), slices.Repeat([]uint8{1}, 301), slices.Repeat([]uint8{255}, 301)}
	for x := 16; x < 256; x++ {
		wrong = append(wrong, []uint8{uint8(x)}, []uint8{1, uint8(x)}, []uint8{uint8(x), 15}, []uint8{0, uint8(x), 0})
	}
	last := make([]uint8, 300)
	last[299] = 16
	for _, lens := range append(wrong, last) {
		if got, e := Kraft(lens); got != 0 || e != api.ErrArg {
			t.Errorf("%d: %d, error %d", lens, got, e)
		}
	}
}

// P7.3

func TestCostOfTheWords(t *testing.T) {
	for _, c := range []struct {
		often []uint32
		lens  []uint8
		want  uint64
	}{
		{nil, nil, 0}, {[]uint32{}, nil, 0}, {nil, []uint8{}, 0}, {[]uint32{0}, []uint8{9}, 0}, {[]uint32{9}, []uint8{0}, 0}, {[]uint32{1}, []uint8{1}, 1},
		{[]uint32{5, 1, 1, 2}, []uint8{1, 3, 3, 2}, 15}, {[]uint32{5, 1, 1, 2}, []uint8{2, 2, 2, 2}, 18}, {[]uint32{3, 0, 2}, []uint8{0, 4, 1}, 2},
		{[]uint32{math.MaxUint32}, []uint8{15}, 15 * math.MaxUint32},
		// Lengths above 15 aren't refused here.
		{[]uint32{3, 2}, []uint8{16, 255}, 558}, {[]uint32{math.MaxUint32}, []uint8{255}, 255 * math.MaxUint32},
		{slices.Repeat([]uint32{math.MaxUint32}, 300), slices.Repeat([]uint8{255}, 300), 300 * 255 * math.MaxUint32},
		{make([]uint32, 300), make([]uint8, 300), 0},
	} {
		if got, e := Cost(c.often, c.lens); got != c.want || e != api.OK {
			t.Errorf("%d, %d: %d, error %d, not %d", c.often, c.lens, got, e, c.want)
		}
	}
}

func TestCostIsASum(t *testing.T) {
	for n := range 301 {
		often, lens := sample(uint32(n), n), make([]uint8, n)
		var want uint64
		for i, x := range below(uint32(n)+7, n, 256) {
			lens[i] = uint8(x)
			for range x {
				want += uint64(often[i])
			}
		}
		if got, e := Cost(often, lens); got != want || e != api.OK {
			t.Errorf("%d symbols: %d, error %d, not %d", n, got, e, want)
		}
	}
}

func TestCostOfWhatMayNotBe(t *testing.T) {
	for _, c := range [][2]int{{0, 1}, {1, 0}, {1, 2}, {2, 1}, {299, 300}, {300, 299}, {300, 301}, {301, 300}, {301, 301}, {302, 302}, {556, 556}, {0, 301}, {301, 0}, {1, 257}, {257, 1}} {
		often, lens := slices.Repeat([]uint32{1}, c[0]), slices.Repeat([]uint8{1}, c[1])
		if got, e := Cost(often, lens); got != 0 || e != api.ErrArg {
			t.Errorf("%d symbols, %d lengths: %d, error %d", c[0], c[1], got, e)
		}
		if got, e := Cost(make([]uint32, c[0]), make([]uint8, c[1])); got != 0 || e != api.ErrArg {
			t.Errorf("%d symbols, %d lengths, all 0: %d, error %d", c[0], c[1], got, e)
		}
	}
}

// P7.4

func TestLensAreOfUsedSymbolsWithinTheLimit(t *testing.T) {
	forEach(func(often []uint32, limit int) {
		lens := told(t, often, limit)
		for i, x := range lens {
			if int(x) > limit || (x > 0) != (often[i] > 0) {
				t.Errorf("limit %d: symbol %d is %d times, its length %d", limit, i, often[i], x)
			}
		}
		weight, e := Kraft(lens)
		if used := usedOf(often); e != api.OK || used > 1 && weight != 32768 || used == 1 && weight != 16384 || used == 0 && weight != 0 {
			t.Errorf("%d used, limit %d: weight %d, error %d", usedOf(often), limit, weight, e)
		}
	})
}

func TestLensOfRarerSymbolsAreNotShorter(t *testing.T) {
	forEach(func(often []uint32, limit int) {
		lens := told(t, often, limit)
		for i := range often {
			for j := range i {
				if often[i] == 0 || often[j] == 0 {
					continue
				}
				if often[j] <= often[i] && lens[j] < lens[i] || often[i] < often[j] && lens[i] < lens[j] {
					t.Fatalf("limit %d: symbols %d and %d are %d and %d times, their lengths %d and %d", limit, j, i, often[j], often[i], lens[j], lens[i])
				}
			}
		}
	})
}

// P7.5

// least tells what the cheapest lengths cost: for each weight that they may have, in parts of the longest word's, symbol by symbol.
func least(often []uint32, limit int) uint64 {
	best := make([]uint64, 1<<limit+1)
	for _, n := range often {
		if n == 0 {
			continue
		}
		now := slices.Repeat([]uint64{math.MaxUint64 / 2}, len(best))
		for length := 1; length <= limit; length++ {
			part := 1 << (limit - length)
			for weight := part; weight < len(now); weight++ {
				now[weight] = min(now[weight], best[weight-part]+uint64(n)*uint64(length))
			}
		}
		best = now
	}
	return best[len(best)-1]
}

// cheapest fails, if there are lengths that cost less.
func cheapest(t *testing.T, often []uint32, limit int) {
	t.Helper()
	cost, e := Cost(often, told(t, often, limit))
	if want := least(often, limit); cost != want || e != api.OK {
		t.Errorf("%d, limit %d: cost %d, error %d, not %d", often, limit, cost, e, want)
	}
}

// Each choice of lengths of a few symbols is tried out.
func TestLensCostNoMoreThanAnyOfFew(t *testing.T) {
	for seed := range uint32(60) {
		for n := 1; n <= 5; n++ {
			often := below(seed, n, []uint32{4, 30, math.MaxUint32}[seed%3])
			for limit := 1; limit <= 5; limit++ {
				if usedOf(often) > 1<<limit {
					continue
				}
				cost, _ := Cost(often, told(t, often, limit))
				if x := tryOut(often, limit); cost != x {
					t.Errorf("%d, limit %d: cost %d, not %d", often, limit, cost, x)
				}
			}
		}
	}
}

// tryOut tells the least cost among all lengths whose weight is 2^15 at most.
func tryOut(often []uint32, limit int) uint64 {
	all := 1
	for range often {
		all *= limit
	}
	best := uint64(math.MaxUint64)
	for x := range all {
		lens := make([]uint8, len(often))
		for i, n := range often {
			if n > 0 {
				lens[i] = uint8(x%limit) + 1
			}
			x /= limit
		}
		if weight, _ := Kraft(lens); weight <= 32768 {
			cost, _ := Cost(often, lens)
			best = min(best, cost)
		}
	}
	return best
}

func TestLensCostNoMoreThanAny(t *testing.T) {
	for _, often := range oftens() {
		for limit := 1; limit <= 10; limit++ {
			if usedOf(often) <= 1<<limit {
				cheapest(t, often, limit)
			}
		}
	}
	for _, n := range []int{2, 17, 30} {
		for limit := 11; limit <= 15; limit++ {
			cheapest(t, growing(n), limit)
			cheapest(t, sample(uint32(n), n), limit)
		}
	}
	cheapest(t, growing(300), 12)
	cheapest(t, below(9, 300, 50), 15)
}

// Memory

func TestWhatIsHandedInStays(t *testing.T) {
	for _, often := range [][]uint32{{5, 1, 1, 2}, {0, 7, 0}, {3, 2, 1}, growing(300), {1, 1, 1}} {
		for _, limit := range []int{0, 1, 9} {
			room := append(slices.Clone(often), 71, 72, 73)
			kept := slices.Clone(room)
			lens, e := Lens(room[:len(often)], limit)
			want := slices.Clone(lens)
			again, _ := Lens(room[:len(often)], limit)
			if !slices.Equal(room, kept) {
				t.Errorf("%d symbols, limit %d: what is handed in is changed", len(often), limit)
			}
			all := again[:cap(again)]
			for i := range all {
				all[i] = 99
			}
			for i := range room {
				room[i] = 0
			}
			if !slices.Equal(lens, want) {
				t.Errorf("%d symbols, limit %d, error %d: memory is shared", len(often), limit, e)
			}
		}
	}
	often, lens := []uint32{5, 1, 1, 2, 8, 9}, []uint8{1, 3, 3, 2, 8, 9}
	Cost(often[:4], lens[:4])
	Kraft(lens[:4])
	if !slices.Equal(often, []uint32{5, 1, 1, 2, 8, 9}) || !slices.Equal(lens, []uint8{1, 3, 3, 2, 8, 9}) {
		t.Error("what is handed in is changed")
	}
}

func TestLensHangOnNothingElse(t *testing.T) {
	var first [][]uint8
	forEach(func(often []uint32, limit int) { first = append(first, told(t, often, limit)) })
	i := 0
	forEach(func(often []uint32, limit int) {
		roomy := append(make([]uint32, 0, len(often)+50), often...)
		if !slices.Equal(told(t, roomy, limit), first[i]) {
			t.Errorf("%d symbols, limit %d: other lengths", len(often), limit)
		}
		i++
	})
}

func BenchmarkLensOfMany(b *testing.B) {
	often := growing(265)
	for b.Loop() {
		Lens(often, 15)
	}
}

func BenchmarkLensOfFew(b *testing.B) {
	often := make([]uint32, 265)
	copy(often[100:], below(1, 20, 5))
	for b.Loop() {
		Lens(often, 15)
	}
}
