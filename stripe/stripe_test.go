package stripe

import (
	"bytes"
	"math"
	"math/bits"
	"slices"
	"testing"

	"firkin/api"
	"firkin/gf"
)

// wantSize checks how many bytes are told.
func wantSize(t *testing.T, f form, n, want int, e api.Errno) {
	t.Helper()
	if got, gotE := Size(f.k, f.m, f.chunk, n); got != want || gotE != e {
		t.Errorf("%v, %d bytes: %d, error %d, not %d, error %d", f, n, got, gotE, want, e)
	}
}

// mustLay tells bytes laid out.
func mustLay(t *testing.T, f form, b []byte) []byte {
	t.Helper()
	s, e := Lay(f.k, f.m, f.chunk, b)
	if e != api.OK {
		t.Fatalf("%v, %d bytes: error %d", f, len(b), e)
	}
	return s
}

// noLay checks that nothing stands beside the error.
func noLay(t *testing.T, f form, b []byte, want api.Errno) {
	t.Helper()
	if s, e := Lay(f.k, f.m, f.chunk, b); e != want || len(s) != 0 {
		t.Errorf("%v, %d bytes: %d bytes, error %d, not %d", f, len(b), len(s), e, want)
	}
}

// wantRead checks what is read.
func wantRead(t *testing.T, f form, s, want []byte, bad ...int) {
	t.Helper()
	b, numbers, e := Read(f.k, f.m, f.chunk, len(want), s)
	if e != api.OK || !bytes.Equal(b, want) || !slices.Equal(numbers, bad) {
		t.Errorf("%v, %d bytes: %d bytes (the same: %v), bad %v, error %d, not bad %v", f, len(want), len(b), bytes.Equal(b, want), numbers, e, bad)
	}
}

// noRead checks that nothing stands beside the error.
func noRead(t *testing.T, f form, n int, s []byte, want api.Errno) {
	t.Helper()
	if b, bad, e := Read(f.k, f.m, f.chunk, n, s); e != want || len(b) != 0 || len(bad) != 0 {
		t.Errorf("%v, %d bytes of %d: %d bytes, bad %v, error %d, not %d", f, n, len(s), len(b), bad, e, want)
	}
}

// summedAt tells the bytes of a chunk and its sum, in s itself.
func summedAt(f form, s []byte, number int) []byte {
	return s[number*(f.chunk+4) : (number+1)*(f.chunk+4)]
}

// spoil changes a chunk so that it isn't good any more, in another way for each kind.
func spoil(f form, s []byte, number, kind int) {
	c := summedAt(f, s, number)
	switch kind % 6 {
	case 0:
		c[0] ^= 1
	case 1:
		c[len(c)-1] ^= 128
	case 2:
		c[f.chunk-1] ^= 255
	case 3:
		c[f.chunk] ^= 4
	case 4:
		clear(c)
	case 5:
		copy(c[f.chunk:], []byte{1, 2, 3, 4})
	}
	if isSummed(c) {
		c[0] ^= 1
	}
}

// put lays other bytes in a chunk's place, with their sum.
func put(f form, s []byte, number int, b ...byte) {
	full := make([]byte, f.chunk)
	copy(full, b)
	copy(summedAt(f, s, number), summed(full))
}

// P23.1

func TestSizeByHand(t *testing.T) {
	for _, c := range []struct {
		f    form
		n    int
		want int
	}{
		{form{2, 1, 4}, 9, 48}, {form{2, 1, 4}, 0, 0}, {form{2, 1, 4}, 1, 24}, {form{2, 1, 4}, 8, 24}, {form{2, 1, 4}, 16, 48}, {form{2, 1, 4}, 17, 72},
		{form{1, 0, 1}, 1, 5}, {form{1, 0, 1}, 7, 35}, {form{1, 1, 1}, 7, 70}, {form{1, 254, 1}, 1, 1275}, {form{255, 0, 1}, 1, 1275}, {form{255, 0, 1}, 256, 2550},
		{form{128, 127, 4096}, 1, 1045500}, {form{128, 127, 4096}, 1 << 19, 1045500}, {form{128, 127, 4096}, 1<<19 + 1, 2091000}, {form{128, 127, 4096}, 1 << 23, 16728000},
		{form{1, 0, 4096}, 1 << 23, 8396800}, {form{4, 2, 64}, 1 << 23, 13369344}, {form{255, 0, 4096}, 1 << 23, 9 * 1045500},
	} {
		wantSize(t, c.f, c.n, c.want, api.OK)
	}
}

// As few stripes as have room: one fewer has none.
func TestSizeHasRoom(t *testing.T) {
	for _, f := range forms() {
		for n := range min(3*f.room()+2, 700) {
			size, e := Size(f.k, f.m, f.chunk, n)
			stripes := size / (f.parts() * (f.chunk + 4))
			if e != api.OK || stripes*f.parts()*(f.chunk+4) != size || stripes*f.room() < n || stripes > 0 && (stripes-1)*f.room() >= n {
				t.Fatalf("%v, %d bytes: %d, error %d", f, n, size, e)
			}
		}
	}
}

func TestSizeOfAllEdges(t *testing.T) {
	counts := []int{math.MinInt, -1 << 32, -256, -1, 0, 1, 2, 3, 4, 64, 127, 128, 129, 253, 254, 255, 256, 1<<32 + 1, math.MaxInt}
	chunks := []int{math.MinInt, -1, 0, 1, 2, 3, 4, 5, 12, 64, 255, 256, 4095, 4096, 4097, 1<<32 + 1, math.MaxInt}
	bytesOf := []int{math.MinInt, -1 << 33, -1, 0, 1, 2, 255, 256, 1000, 1 << 19, 1 << 20, 1677721, 1677722, 1 << 21, 3355443, 3355444, 1 << 22, 1<<23 - 1, 1 << 23, 1<<23 + 1, 1<<32 + 1, math.MaxInt}
	seen := map[api.Errno]int{}
	for _, k := range counts {
		for _, m := range counts {
			for _, chunk := range chunks {
				for _, n := range bytesOf {
					want, e := plainSize(k, m, chunk, n)
					wantSize(t, form{k, m, chunk}, n, want, e)
					seen[e]++
				}
			}
		}
	}
	if seen[api.OK] < 1000 || seen[api.ErrLimit] < 1000 || seen[api.ErrArg] < 1000 {
		t.Errorf("too few are tried: %v", seen)
	}
}

// 2^24 bytes may be, and no more.
func TestSizeLimit(t *testing.T) {
	for _, c := range []struct {
		f form
		n int // the most that may be
	}{
		{form{1, 1, 12}, 12 << 19}, {form{1, 3, 4}, 4 << 19}, {form{2, 6, 4}, 8 << 18}, {form{1, 63, 252}, 252 << 10}, {form{60, 68, 4}, 240 << 14},
	} {
		wantSize(t, c.f, c.n, 1<<24, api.OK)
		wantSize(t, c.f, c.n-1, 1<<24, api.OK)
		wantSize(t, c.f, c.n+1, 0, api.ErrLimit)
	}
	wantSize(t, form{1, 0, 4}, 1<<23, 1<<24, api.OK)
	wantSize(t, form{1, 0, 1}, 3355443, 1<<24-1, api.OK)
	wantSize(t, form{1, 0, 1}, 3355444, 0, api.ErrLimit)
	wantSize(t, form{1, 254, 4096}, 16*4096, 16*1045500, api.OK)
	wantSize(t, form{1, 254, 4096}, 16*4096+1, 0, api.ErrLimit)
	wantSize(t, form{1, 1, 1}, 1<<23, 0, api.ErrLimit)
	wantSize(t, form{1, 254, 1}, 1<<23, 0, api.ErrLimit)
}

// A shape that may not be is told ahead of what is too much.
func TestSizeTellsArgFirst(t *testing.T) {
	for _, f := range wrongForms() {
		for _, n := range []int{0, 1, 9, 1 << 23, 1<<23 + 1, -1, math.MaxInt, math.MinInt} {
			wantSize(t, f, n, 0, api.ErrArg)
		}
	}
	for _, f := range forms() {
		for _, n := range []int{-1, math.MinInt, 1<<23 + 1, 1 << 24, 1 << 32, math.MaxInt} {
			wantSize(t, f, n, 0, api.ErrArg)
		}
	}
}

// P23.2

func TestLayByHand(t *testing.T) {
	a := summed([]byte("a"))
	if s := mustLay(t, form{1, 1, 1}, []byte("a")); !bytes.Equal(s, slices.Concat(a, a)) {
		t.Errorf("%q", s)
	}
	if s := mustLay(t, form{1, 0, 4}, []byte("nine byte")); !bytes.Equal(s, slices.Concat(summed([]byte("nine")), summed([]byte(" byt")), summed([]byte("e\x00\x00\x00")))) {
		t.Errorf("%q", s)
	}
	s := mustLay(t, form{2, 1, 2}, []byte{1, 2, 3, 4, 5})
	want := slices.Concat(
		summed([]byte{1, 2}), summed([]byte{3, 4}), summed([]byte{gf.Mul(142, 1) ^ gf.Mul(244, 3), gf.Mul(142, 2) ^ gf.Mul(244, 4)}),
		summed([]byte{5, 0}), summed([]byte{0, 0}), summed([]byte{gf.Mul(142, 5), 0}))
	if !bytes.Equal(s, want) {
		t.Errorf("%d, not %d", s, want)
	}
}

func TestLayIsTheOneOfTheWords(t *testing.T) {
	for i, f := range forms() {
		for _, n := range f.lengths() {
			b := sample(int64(i*1000+n), n)
			s := mustLay(t, f, b)
			if size, e := Size(f.k, f.m, f.chunk, n); !bytes.Equal(s, plainLay(f, b)) || len(s) != size || e != api.OK {
				t.Errorf("%v, %d bytes: other bytes than the words say, or %d of them, not %d", f, n, len(s), size)
			}
		}
	}
}

func TestLayOfChance(t *testing.T) {
	r := chance(1)
	for range 3000 {
		f := form{1 + r.Intn(9), r.Intn(6), 1 + r.Intn(12)}
		b := make([]byte, r.Intn(6*f.room()))
		r.Read(b)
		if !bytes.Equal(mustLay(t, f, b), plainLay(f, b)) {
			t.Fatalf("%v, %d: other bytes than the words say", f, b)
		}
	}
}

// Of no bytes there is no stripe.
func TestLayOfNothing(t *testing.T) {
	for _, f := range forms() {
		for _, b := range [][]byte{nil, {}} {
			if s := mustLay(t, f, b); len(s) != 0 {
				t.Errorf("%v: %d bytes", f, len(s))
			}
		}
	}
}

func TestLayOfMuch(t *testing.T) {
	b := sample(1, 1<<23)
	for _, f := range []form{{1, 0, 4}, {4, 2, 64}, {255, 0, 4096}, {10, 2, 4001}} {
		s := mustLay(t, f, b)
		if !bytes.Equal(s, plainLay(f, b)) {
			t.Errorf("%v: other bytes than the words say", f)
		}
		wantRead(t, f, s, b)
		noRead(t, f, len(b)+1, s, api.ErrArg)
	}
	noLay(t, form{1, 0, 4}, append(b, 0), api.ErrArg)
}

// The most chunks that may be, in as many stripes.
func TestLayOfManyStripes(t *testing.T) {
	for _, c := range []struct {
		f form
		n int
	}{{form{1, 0, 1}, 3355443}, {form{1, 1, 1}, 1677721}} {
		b := sample(2, c.n)
		s := mustLay(t, c.f, b)
		if !bytes.Equal(s, plainLay(c.f, b)) {
			t.Errorf("%v: other bytes than the words say", c.f)
		}
		wantRead(t, c.f, s, b)
		noLay(t, c.f, append(b, 1), api.ErrLimit)
	}
}

func TestLayOfWhatMayNotBe(t *testing.T) {
	for _, f := range wrongForms() {
		for _, n := range []int{0, 1, 9, 100} {
			noLay(t, f, make([]byte, n), api.ErrArg)
		}
		noLay(t, f, nil, api.ErrArg)
	}
	much := make([]byte, 1<<23+1)
	for _, f := range forms() {
		noLay(t, f, much, api.ErrArg)
		if _, e := plainSize(f.k, f.m, f.chunk, 1<<23); e != api.OK {
			noLay(t, f, much[1:], e)
		}
	}
	noLay(t, form{1, 1, 12}, much[:12<<19+1], api.ErrLimit)
}

func TestLayMemory(t *testing.T) {
	b := sample(3, 100)
	for _, f := range []form{{1, 0, 100}, {1, 1, 50}, {2, 1, 50}, {3, 2, 7}, {1, 0, 4096}} {
		given := append(slices.Clone(b), 9, 9, 9)
		arg := given[:100]
		s := mustLay(t, f, arg)
		want := slices.Clone(s)
		again := mustLay(t, f, arg)
		if !bytes.Equal(given, append(slices.Clone(b), 9, 9, 9)) {
			t.Errorf("%v: what was handed in is changed", f)
		}
		clear(s[:cap(s)])
		if !bytes.Equal(again, want) || !bytes.Equal(arg, b) || !bytes.Equal(given[100:], []byte{9, 9, 9}) {
			t.Errorf("%v: an answer shares memory", f)
		}
		clear(given)
		if !bytes.Equal(again, want) {
			t.Errorf("%v: an answer hangs on what was handed in", f)
		}
	}
}

// P23.3

func TestReadByHand(t *testing.T) {
	a, b := summed([]byte("a")), summed([]byte("b"))
	off := []byte("a\x00\x00\x00\x00")
	wantRead(t, form{1, 1, 1}, slices.Concat(a, a), []byte("a"))
	wantRead(t, form{1, 1, 1}, slices.Concat(off, a), []byte("a"), 0)
	wantRead(t, form{1, 1, 1}, slices.Concat(b[:4], a[4:], a), []byte("a"), 0)
	wantRead(t, form{1, 1, 1}, slices.Concat(a, off), []byte("a"), 1)
	wantRead(t, form{1, 1, 1}, slices.Concat(a, off, off, b), []byte("ab"), 1, 2)
	wantRead(t, form{1, 0, 1}, slices.Concat(b, a), []byte("ba"))
	noRead(t, form{1, 1, 1}, 1, slices.Concat(off, off), api.ErrDamage)
	noRead(t, form{1, 1, 1}, 1, slices.Concat(a, b), api.ErrForm)
	noRead(t, form{1, 0, 1}, 2, slices.Concat(a, off), api.ErrDamage)
	noRead(t, form{1, 0, 2}, 1, summed([]byte("ab")), api.ErrForm)
	wantRead(t, form{1, 0, 2}, summed([]byte("a\x00")), []byte("a"))
}

func TestReadOfWhatMayNotBe(t *testing.T) {
	good := mustLay(t, form{2, 1, 4}, sample(1, 9))
	for _, s := range [][]byte{nil, {1}, good, good[:47], append(slices.Clone(good), 0)} {
		for _, f := range wrongForms() {
			for _, n := range []int{0, 9, -1, 1 << 23, math.MaxInt} {
				noRead(t, f, n, s, api.ErrArg)
			}
		}
		for _, n := range []int{-1, math.MinInt, 1<<23 + 1, 1<<32 + 9, math.MaxInt} {
			noRead(t, form{2, 1, 4}, n, s, api.ErrArg)
		}
		noRead(t, form{1, 1, 1}, 1<<23, s, api.ErrLimit)
		noRead(t, form{1, 254, 4096}, 16*4096+1, s, api.ErrLimit)
	}
}

// How many bytes there are is told ahead of what they are.
func TestReadOfOtherLengths(t *testing.T) {
	for i, f := range forms() {
		for _, n := range f.lengths() {
			s := mustLay(t, f, sample(int64(i), n))
			spoilt := sample(int64(n), len(s))
			for _, bytesOf := range [][]byte{s, spoilt} {
				for _, less := range []int{1, 2, f.chunk + 4, f.parts() * (f.chunk + 4), len(s)} {
					if less <= len(s) && less > 0 {
						noRead(t, f, n, bytesOf[:len(s)-less], api.ErrShort)
					}
				}
				for _, more := range [][]byte{{0}, {1, 2}, make([]byte, f.chunk+4), s} {
					if len(more) > 0 {
						noRead(t, f, n, slices.Concat(bytesOf, more), api.ErrForm)
					}
				}
			}
		}
	}
}

// A length for which as many stripes are laid out is told by how many bytes are read.
func TestReadOfOtherCounts(t *testing.T) {
	for i, f := range forms() {
		s := mustLay(t, f, sample(int64(i), 2*f.room()-f.room()/2))
		for _, n := range f.lengths() {
			want, bad, e := plainRead(f, n, s)
			if e == api.OK && len(bad) == 0 {
				wantRead(t, f, s, want)
				continue
			}
			noRead(t, f, n, s, e)
		}
	}
	s := mustLay(t, form{3, 2, 4}, sample(1, 13))
	for n := 13; n <= 24; n++ {
		wantRead(t, form{3, 2, 4}, s, append(sample(1, 13), make([]byte, n-13)...))
	}
	noRead(t, form{3, 2, 4}, 12, s, api.ErrForm)
	noRead(t, form{3, 2, 4}, 25, s, api.ErrShort)
}

// Of no bytes there is nothing to read.
func TestReadOfNothing(t *testing.T) {
	for _, f := range forms() {
		wantRead(t, f, nil, nil)
		wantRead(t, f, []byte{}, nil)
		noRead(t, f, 0, []byte{0}, api.ErrForm)
		noRead(t, f, 1, nil, api.ErrShort)
	}
}

// Each choice of chunks that aren't good, in all small shapes, beside a stripe that is.
func TestReadOfEachLoss(t *testing.T) {
	for k := 1; k <= 4; k++ {
		for m := range 4 {
			f := form{k, m, 3}
			b := sample(int64(k*m), 3*f.room())
			whole := mustLay(t, f, b)
			for stripe := range 3 {
				for mask := range uint(1) << f.parts() {
					s := slices.Clone(whole)
					var bad []int
					for i := range f.parts() {
						if mask>>i&1 == 1 {
							bad = append(bad, stripe*f.parts()+i)
							spoil(f, s, bad[len(bad)-1], i+int(mask))
						}
					}
					if bits.OnesCount(mask) > m {
						noRead(t, f, len(b), s, api.ErrDamage)
					} else {
						wantRead(t, f, s, b, bad...)
					}
				}
			}
		}
	}
}

// A good chunk that isn't the stripe's: where there are more than k good ones, each of them is asked.
func TestReadOfOtherGoodChunks(t *testing.T) {
	for _, f := range []form{{1, 1, 1}, {1, 3, 2}, {2, 1, 4}, {3, 2, 4}, {4, 4, 2}, {2, 5, 1}} {
		b := sample(int64(f.k), 3*f.room())
		whole := mustLay(t, f, b)
		for number := range 3 * f.parts() {
			s := slices.Clone(whole)
			put(f, s, number, ^summedAt(f, s, number)[0])
			noRead(t, f, len(b), s, api.ErrForm)
			lost := 0
			for i := range f.parts() {
				other := number/f.parts()*f.parts() + i
				if other == number || lost == f.m-1 {
					continue
				}
				lost++
				spoil(f, s, other, i)
				noRead(t, f, len(b), s, api.ErrForm)
			}
		}
	}
}

// Where just k are good, nothing says that one of them isn't the stripe's: it is read as it stands.
func TestReadOfJustEnoughGoodChunks(t *testing.T) {
	for _, f := range []form{{1, 0, 2}, {1, 1, 1}, {1, 3, 2}, {2, 1, 4}, {3, 2, 4}, {4, 4, 2}} {
		b := sample(int64(f.k), 2*f.room())
		whole := mustLay(t, f, b)
		for number := f.parts(); number < 2*f.parts(); number++ {
			for skip := range f.parts() {
				s := slices.Clone(whole)
				put(f, s, number, 7)
				var bad []int
				for i := range f.parts() {
					other := f.parts() + (i+skip)%f.parts()
					if other != number && len(bad) < f.m {
						bad = append(bad, other)
						spoil(f, s, other, i)
					}
				}
				slices.Sort(bad)
				want, plainBad, e := plainRead(f, len(b), s)
				if e != api.OK || !slices.Equal(bad, plainBad) || bytes.Equal(want, b) {
					t.Fatalf("%v: bad %v, error %d", f, plainBad, e)
				}
				wantRead(t, f, s, want, bad...)
			}
		}
	}
}

// Chunks that changed places are good, but not there.
func TestReadOfSwappedChunks(t *testing.T) {
	f := form{3, 2, 2}
	b := sample(5, 3*f.room())
	whole := mustLay(t, f, b)
	for i := range 3 * f.parts() {
		for j := range i {
			s := slices.Clone(whole)
			copy(summedAt(f, s, i), summedAt(f, whole, j))
			copy(summedAt(f, s, j), summedAt(f, whole, i))
			noRead(t, f, len(b), s, api.ErrForm)
		}
	}
	flat := bytes.Repeat([]byte{1, 2}, 3*f.k)
	s := mustLay(t, f, flat)
	copy(summedAt(f, s, 2), summedAt(f, s, f.parts()))
	wantRead(t, f, s, flat)
}

// fault is what may be wrong with a stripe.
type fault struct {
	name string
	do   func(s []byte, first int) // first is the stripe's first chunk
	e    api.Errno
	bad  []int // of the stripe, beside OK
}

// faults are those of a stripe of three and two chunks of four bytes.
func faults() []fault {
	f := form{3, 2, 4}
	return []fault{
		{"none", func(s []byte, first int) {}, api.OK, nil},
		{"one is lost", func(s []byte, first int) { spoil(f, s, first, 0) }, api.OK, []int{0}},
		{"two are lost", func(s []byte, first int) { spoil(f, s, first+1, 1); spoil(f, s, first+3, 2) }, api.OK, []int{1, 3}},
		{"two other ones are lost", func(s []byte, first int) { spoil(f, s, first+1, 1); spoil(f, s, first+4, 2) }, api.OK, []int{1, 4}},
		{"three are lost", func(s []byte, first int) {
			for i := range 3 {
				spoil(f, s, first+i, i)
			}
		}, api.ErrDamage, nil},
		{"all are lost", func(s []byte, first int) {
			for i := range 5 {
				spoil(f, s, first+i, i)
			}
		}, api.ErrDamage, nil},
		{"data are other ones", func(s []byte, first int) { put(f, s, first, 1, 2, 3, 4) }, api.ErrForm, nil},
		{"parity is another one", func(s []byte, first int) { put(f, s, first+4, 1, 2, 3, 4) }, api.ErrForm, nil},
		{"one is lost, another one is another one", func(s []byte, first int) { spoil(f, s, first+1, 0); put(f, s, first+3, 0) }, api.ErrForm, nil},
		{"three are lost, another one is another one", func(s []byte, first int) {
			for i := range 3 {
				spoil(f, s, first+i, i)
			}
			put(f, s, first+3, 9)
		}, api.ErrDamage, nil},
	}
}

// The first error is that of the first stripe that has one, whatever the others have.
func TestReadTellsTheFirstStripesError(t *testing.T) {
	f := form{3, 2, 4}
	b := sample(6, 5*f.room())
	whole := mustLay(t, f, b)
	for _, x := range faults() {
		for _, y := range faults() {
			for i := range 5 {
				for j := i + 1; j < 5; j++ {
					s := slices.Clone(whole)
					x.do(s, i*f.parts())
					y.do(s, j*f.parts())
					var bad []int
					for _, n := range x.bad {
						bad = append(bad, i*f.parts()+n)
					}
					for _, n := range y.bad {
						bad = append(bad, j*f.parts()+n)
					}
					switch {
					case x.e != api.OK:
						noRead(t, f, len(b), s, x.e)
					case y.e != api.OK:
						noRead(t, f, len(b), s, y.e)
					default:
						wantRead(t, f, s, b, bad...)
					}
				}
			}
		}
	}
}

// Stripes one behind the other that are damaged alike: a wrong one among them is seen wherever it stands.
func TestReadOfStripesDamagedAlike(t *testing.T) {
	f := form{3, 2, 4}
	b := sample(7, 6*f.room())
	whole := mustLay(t, f, b)
	for lost := range f.parts() {
		s := slices.Clone(whole)
		var bad []int
		for stripe := range 6 {
			bad = append(bad, stripe*f.parts()+lost)
			spoil(f, s, bad[stripe], stripe)
		}
		wantRead(t, f, s, b, bad...)
		for stripe := range 6 {
			for other := range f.parts() {
				if other != lost {
					now := slices.Clone(s)
					put(f, now, stripe*f.parts()+other, 3, 2, 1)
					noRead(t, f, len(b), now, api.ErrForm)
				}
			}
		}
	}
}

// The padding is asked as it is mended, and behind all else.
func TestReadPadding(t *testing.T) {
	f := form{3, 2, 4}
	for n := 13; n < 24; n++ {
		b := sample(8, n)
		for at := n; at < 24; at++ {
			padded := append(slices.Clone(b), make([]byte, 24-n)...)
			padded[at] = 1 << (at % 8)
			s := mustLay(t, f, padded)
			noRead(t, f, n, s, api.ErrForm)
			lost := slices.Clone(s)
			spoil(f, lost, 5+(at-12)/4, at)
			noRead(t, f, n, lost, api.ErrForm)
			spoil(f, lost, 9, at)
			noRead(t, f, n, lost, api.ErrForm)
			spoil(f, lost, 8, at)
			noRead(t, f, n, lost, api.ErrDamage)
			ahead := slices.Clone(s)
			for i := range 3 {
				spoil(f, ahead, i, i)
			}
			noRead(t, f, n, ahead, api.ErrDamage)
		}
		s := mustLay(t, f, b)
		const last = 5 + 2
		copy(summedAt(f, s, last), []byte{1, 2, 3, 4})
		wantRead(t, f, s, b, last)
	}
}

// The padding of a chunk that is another one with a right sum, where just k are good.
func TestReadPaddingOfJustEnoughGoodChunks(t *testing.T) {
	f := form{2, 1, 2}
	b := []byte{1, 2, 3}
	s := mustLay(t, f, b)
	spoil(f, s, 2, 0)
	put(f, s, 1, 3, 4)
	noRead(t, f, 3, s, api.ErrForm)
	put(f, s, 1, 4, 0)
	wantRead(t, f, s, []byte{1, 2, 4}, 2)
	s = mustLay(t, f, b)
	spoil(f, s, 1, 0)
	put(f, s, 2, 5, 5)
	want, bad, e := plainRead(f, 4, s)
	if e != api.OK || want[3] == 0 {
		t.Fatalf("%d, error %d", want, e)
	}
	wantRead(t, f, s, want, bad...)
	noRead(t, f, 3, s, api.ErrForm)
}

// change changes what was laid out, in one way or another.
func change(f form, s []byte, pick func(n int) int) {
	number := pick(len(s) / (f.chunk + 4))
	c := summedAt(f, s, number)
	switch pick(7) {
	case 0:
		c[pick(len(c))] ^= byte(1 + pick(255))
	case 1, 2:
		spoil(f, s, number, pick(6))
	case 3:
		b := slices.Clone(c[:f.chunk])
		b[pick(len(b))] ^= byte(1 + pick(255))
		put(f, s, number, b...)
	case 4:
		put(f, s, number, c[:f.chunk]...)
	case 5:
		copy(c, summedAt(f, s, pick(len(s)/(f.chunk+4))))
	case 6:
		for i := range f.parts() {
			if first := number / f.parts() * f.parts(); pick(2) == 0 {
				spoil(f, s, first+i, pick(6))
			}
		}
	}
}

func TestReadOfChance(t *testing.T) {
	r := chance(9)
	seen := map[api.Errno]int{}
	for range 40000 {
		f := form{1 + r.Intn(5), r.Intn(5), 1 + r.Intn(6)}
		b := make([]byte, 1+r.Intn(5*f.room()))
		r.Read(b)
		s := mustLay(t, f, b)
		for range r.Intn(6) {
			change(f, s, r.Intn)
		}
		n := len(b)
		switch r.Intn(10) {
		case 0, 1:
			n = max(0, n-r.Intn(f.chunk+1))
		case 2:
			n += r.Intn(f.chunk + 1)
		}
		want, bad, e := plainRead(f, n, s)
		seen[e]++
		if e == api.OK {
			wantRead(t, f, s, want, bad...)
		} else {
			noRead(t, f, n, s, e)
		}
		if t.Failed() {
			t.FailNow()
		}
	}
	if seen[api.OK] < 5000 || seen[api.ErrDamage] < 5000 || seen[api.ErrForm] < 5000 || seen[api.ErrShort] < 100 {
		t.Errorf("too few are tried: %v", seen)
	}
}

func TestReadOfAnyBytes(t *testing.T) {
	r := chance(10)
	for range 20000 {
		f := form{1 + r.Intn(3), r.Intn(4), 1 + r.Intn(3)}
		n := r.Intn(3 * f.room())
		size, _ := Size(f.k, f.m, f.chunk, n)
		s := make([]byte, max(0, size+r.Intn(3)-1))
		r.Read(s)
		for at := 0; at+f.chunk+4 <= len(s); at += f.chunk + 4 {
			if r.Intn(4) > 0 {
				copy(s[at:], summed(s[at:at+f.chunk]))
			}
		}
		if want, bad, e := plainRead(f, n, s); e == api.OK {
			wantRead(t, f, s, want, bad...)
		} else {
			noRead(t, f, n, s, e)
		}
	}
}

func TestReadMemory(t *testing.T) {
	for _, f := range []form{{1, 0, 100}, {1, 1, 50}, {2, 1, 50}, {3, 2, 7}, {1, 2, 4096}} {
		b := sample(11, 100)
		s := mustLay(t, f, b)
		var bad []int
		if f.m > 0 {
			bad = []int{f.m}
			spoil(f, s, f.m, 2)
		}
		given := append(slices.Clone(s), 9, 9, 9)
		arg := given[:len(s)]
		got, numbers, e := Read(f.k, f.m, f.chunk, 100, arg)
		again, numbersAgain, _ := Read(f.k, f.m, f.chunk, 100, arg)
		if e != api.OK || !bytes.Equal(given, append(slices.Clone(s), 9, 9, 9)) {
			t.Errorf("%v: what was handed in is changed, or error %d", f, e)
		}
		clear(got[:cap(got)])
		clear(numbers[:cap(numbers)])
		if !bytes.Equal(again, b) || !slices.Equal(numbersAgain, bad) || !bytes.Equal(given, append(slices.Clone(s), 9, 9, 9)) {
			t.Errorf("%v: an answer shares memory", f)
		}
		clear(given)
		if !bytes.Equal(again, b) {
			t.Errorf("%v: an answer hangs on what was handed in", f)
		}
	}
}

// P23.4

func TestThereAndBack(t *testing.T) {
	for i, f := range forms() {
		for _, n := range f.lengths() {
			b := sample(int64(i+n), n)
			wantRead(t, f, mustLay(t, f, b), b)
			zeros := make([]byte, n)
			wantRead(t, f, mustLay(t, f, zeros), zeros)
		}
	}
}

// Each byte of what was laid out is changed to all that it may be.
func TestReadOfEachChangedByte(t *testing.T) {
	for _, f := range []form{{1, 1, 1}, {2, 1, 4}, {3, 2, 2}, {1, 4, 3}} {
		b := sample(12, 2*f.room()-1)
		s := mustLay(t, f, b)
		for at := range s {
			for x := 1; x < 256; x++ {
				s[at] ^= byte(x)
				wantRead(t, f, s, b, at/(f.chunk+4))
				s[at] ^= byte(x)
			}
		}
	}
}

// At most m chunks of each stripe are changed, other ones of each.
func TestReadOfManyChangedChunks(t *testing.T) {
	r := chance(13)
	for i, f := range forms() {
		for _, n := range f.lengths() {
			b := sample(int64(i+n), n)
			s := mustLay(t, f, b)
			var bad []int
			for first := 0; first*(f.chunk+4) < len(s); first += f.parts() {
				lost := r.Perm(f.parts())[:f.m-r.Intn(f.m+1)/3]
				slices.Sort(lost)
				for _, number := range lost {
					bad = append(bad, first+number)
					spoil(f, s, first+number, r.Intn(6))
				}
			}
			wantRead(t, f, s, b, bad...)
		}
	}
}

// A chunk whose sum alone is changed isn't good, though its bytes are right.
func TestReadOfChangedSums(t *testing.T) {
	f := form{2, 3, 5}
	b := sample(14, 3*f.room())
	whole := mustLay(t, f, b)
	for number := range 3 * f.parts() {
		for i := range 4 {
			s := slices.Clone(whole)
			summedAt(f, s, number)[f.chunk+i]++
			wantRead(t, f, s, b, number)
		}
	}
}

// All parity, or all data, are lost, in long chunks and in great shapes.
func TestReadOfRowsOfLosses(t *testing.T) {
	for _, f := range []form{{1, 1, 4096}, {4, 4, 4096}, {127, 128, 3}, {128, 127, 5}, {254, 1, 2}, {1, 254, 4}, {40, 60, 100}} {
		b := sample(15, 2*f.room()-1)
		whole := mustLay(t, f, b)
		for _, from := range []int{0, f.k, f.k / 2, f.m} {
			s := slices.Clone(whole)
			var bad []int
			for _, first := range []int{0, f.parts()} {
				for i := from; i < min(from+f.m, f.parts()); i++ {
					bad = append(bad, first+i)
					spoil(f, s, first+i, i)
				}
			}
			wantRead(t, f, s, b, bad...)
		}
	}
}

// Of much, chunks of all stripes are changed by turns.
func TestReadOfMuchThatIsChanged(t *testing.T) {
	f := form{4, 2, 64}
	b := sample(16, 1<<22)
	s := mustLay(t, f, b)
	var bad []int
	for first := 0; first*(f.chunk+4) < len(s); first += f.parts() {
		for _, number := range [][]int{{0, 5}, {1, 2}, {3}, {}, {4, 5}}[first/f.parts()/3%5] {
			bad = append(bad, first+number)
			spoil(f, s, first+number, first)
		}
	}
	wantRead(t, f, s, b, bad...)
}
