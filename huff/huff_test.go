package huff

import (
	"bytes"
	"math"
	"math/rand"
	"slices"
	"strconv"
	"strings"
	"testing"

	"firkin/api"
	"firkin/bits"
	"firkin/canon"
	"firkin/lens"
)

// chance tells numbers that look like chance, the same in each run.
func chance(seed int64) *rand.Rand { return rand.New(rand.NewSource(seed)) }

// digits tells a number, as n bits, as text.
func digits(x uint64, n int) string {
	if n == 0 {
		return ""
	}
	s := strconv.FormatUint(x, 2)
	return strings.Repeat("0", n-len(s)) + s
}

// digitsOf tells the bits of bytes as text.
func digitsOf(b []byte) string {
	var s strings.Builder
	for _, x := range b {
		s.WriteString(digits(uint64(x), 8))
	}
	return s.String()
}

// bytesOf tells bits, as text, as bytes; bits 0 fill the last one up.
func bytesOf(s string) []byte {
	b := make([]byte, (len(s)+7)/8)
	for i := range s {
		b[i/8] |= (s[i] - '0') << (7 - i%8)
	}
	return b
}

// readerOf tells a reader of just these bits, which are told as text.
func readerOf(s string) *bits.Reader {
	ahead := (8 - len(s)%8) % 8
	r := bits.NewReader(bytesOf(strings.Repeat("1", ahead) + s))
	r.Skip(ahead)
	return r
}

// plainWords tells the words of right lengths as texts of bits; that of a symbol without one is "".
func plainWords(t testing.TB, l []uint8) []string {
	t.Helper()
	codes, e := canon.Codes(l)
	if e != api.OK {
		t.Fatalf("%d: error %d", l, e)
	}
	words := make([]string, len(l))
	for sym := range l {
		words[sym] = digits(uint64(codes[sym]), int(l[sym]))
	}
	return words
}

// plainGet tells the symbol that bits begin with, as the chapter's words tell it.
func plainGet(words []string, s string) (int, api.Errno) {
	begun := false
	for sym, word := range words {
		if word != "" && strings.HasPrefix(s, word) {
			return sym, api.OK
		}
		begun = begun || word != "" && strings.HasPrefix(word, s)
	}
	if begun {
		return -1, api.ErrShort
	}
	return -1, api.ErrCode
}

// plainUnpack tells n symbols of bits, as the chapter's words tell it.
func plainUnpack(words []string, n int, s string) ([]int, api.Errno) {
	var syms []int
	for range n {
		sym, e := plainGet(words, s)
		if e != api.OK {
			return nil, e
		}
		syms, s = append(syms, sym), s[len(words[sym]):]
	}
	if len(s) >= 8 || strings.Contains(s, "1") {
		return nil, api.ErrForm
	}
	return syms, api.OK
}

// growing tells how often n symbols are, of which each is as often as the two ahead: their words are as unlike in length as may be.
func growing(n int) []uint32 {
	often := []uint32{1, 1}
	for len(often) < n {
		often = append(often, often[len(often)-1]+often[len(often)-2])
	}
	return often[:n]
}

// oftens tells how often symbols are: none, one, few and as many as may be, even and uneven, some not at all.
func oftens() [][]uint32 {
	out := [][]uint32{nil, {0}, {0, 0, 0}, {1}, {7}, {0, 7}, {7, 0}, {0, 0, 3, 0}, {1, 1}, {1, 0, 1}, {5, 1, 1, 2}, {1, 2, 1, 5}, {1, 1, 1}, {1, 1, 1, 1}, {0, 4, 0, 4, 4}}
	for n := 2; n <= 30; n++ {
		back := growing(n)
		slices.Reverse(back)
		out = append(out, growing(n), back)
	}
	for _, n := range []int{255, 256, 257, 258, 265, 299, 300} {
		last := make([]uint32, n)
		last[n-1] = 3
		both := slices.Clone(last)
		both[0] = 1
		out = append(out, make([]uint32, n), last, both, slices.Repeat([]uint32{1}, n))
	}
	d := chance(1)
	for _, n := range []int{3, 8, 40, 256, 265, 300} {
		for k := range 6 {
			often := make([]uint32, n)
			for i := range often {
				often[i] = uint32(d.Intn(4)) * uint32(1+d.Intn(1<<(5*k)))
			}
			out = append(out, often)
		}
	}
	return out
}

// rights tells right lengths: those that chapter 7 finds, and others.
func rights(t testing.TB) [][]uint8 {
	t.Helper()
	out := [][]uint8{{3, 3, 2, 1}, {3, 1, 3, 2}, {0, 2, 0, 1, 2, 0}, {4, 4, 4, 4, 3, 3, 1}, {2, 2, 3, 3, 3, 4, 4}, {15, 15, 14, 13, 12, 11, 10, 9, 8, 7, 6, 5, 4, 3, 2, 1}}
	for _, often := range oftens() {
		for _, limit := range []int{9, 15} {
			l, e := lens.Lens(often, limit)
			if e != api.OK {
				t.Fatalf("%d: error %d", often, e)
			}
			out = append(out, l)
		}
	}
	return out
}

// few tells right lengths of few words; the last ones have none.
func few() [][]uint8 {
	return [][]uint8{
		{1, 3, 3, 2}, {2, 3, 3, 1}, {0, 1}, {1}, {1, 0, 0}, {1, 1}, {0, 1, 0, 1}, {2, 2, 2, 2}, {1, 2, 2}, {3, 0, 2, 3, 1}, slices.Repeat([]uint8{3}, 8),
		{15, 15, 14, 13, 12, 11, 10, 9, 8, 7, 6, 5, 4, 3, 2, 1}, {1, 2, 3, 4, 5, 6, 7, 8, 9, 10, 11, 12, 13, 14, 15, 15}, nil, {0}, {0, 0, 0},
	}
}

// wrongs tells lengths that aren't right.
func wrongs() [][]uint8 {
	return [][]uint8{
		{2}, {15}, {16}, {255}, {0, 2}, {1, 2}, {2, 2}, {2, 2, 2}, {1, 1, 1}, {1, 3, 3}, {1, 2, 2, 2}, {1, 3, 3, 2, 15}, {1, 1, 16}, {0, 16}, {1, 3, 3, 18}, {15, 15},
		slices.Repeat([]uint8{8}, 255), slices.Repeat([]uint8{8}, 257), slices.Repeat([]uint8{15}, 300), slices.Repeat([]uint8{1}, 10),
		make([]uint8, 301), append(make([]uint8, 300), 1), append([]uint8{1, 1}, make([]uint8, 299)...), slices.Repeat([]uint8{9}, 512),
	}
}

// forAll calls for all lengths of up to n symbols, none above a bound.
func forAll(n, bound int, call func(l []uint8)) {
	l := make([]uint8, 0, n)
	var grow func()
	grow = func() {
		call(slices.Clone(l))
		for x := 0; len(l) < n && x <= bound; x++ {
			l = append(l, uint8(x))
			grow()
			l = l[:len(l)-1]
		}
	}
	grow()
}

// strangers tells numbers that are no symbols of n lengths.
func strangers(n int) []int {
	return []int{-1, -2, -256, n, n + 1, n + 255, n + 256, n + 65536, math.MinInt, math.MinInt32, math.MaxInt32, math.MaxInt, math.MinInt + n, 1 << 32}
}

// made tells the coder of lengths.
func made(t testing.TB, l []uint8) *Coder {
	t.Helper()
	c, e := New(l)
	if c == nil || e != api.OK {
		t.Fatalf("%d: %v, error %d", l, c, e)
	}
	return c
}

// P9.1

func TestNewOfWrongLengths(t *testing.T) {
	for _, l := range wrongs() {
		if c, e := New(l); c != nil || e != api.ErrCode {
			t.Errorf("%d: %v, error %d", l, c, e)
		}
	}
	for x := 16; x < 256; x++ {
		if c, e := New([]uint8{1, 1, uint8(x)}); c != nil || e != api.ErrCode {
			t.Errorf("%d: %v, error %d", x, c, e)
		}
	}
}

func TestNewOfAllFewLengths(t *testing.T) {
	forAll(6, 4, func(l []uint8) {
		c, e := New(l)
		if want := canon.Check(l); e != want || (c == nil) != (want != api.OK) {
			t.Errorf("%d: %v, error %d, not %d", l, c, e, want)
		}
	})
}

func TestLen(t *testing.T) {
	for _, l := range rights(t) {
		c := made(t, l)
		for sym, want := range l {
			if got := c.Len(sym); got != int(want) {
				t.Fatalf("%d: the length of %d is %d, not %d", l, sym, got, want)
			}
		}
		for _, sym := range strangers(len(l)) {
			if got := c.Len(sym); got != 0 {
				t.Fatalf("%d: the length of %d is %d", l, sym, got)
			}
		}
	}
}

// P9.2

// written tells a writer that has some bits already, and these.
func written(ahead int) (*bits.Writer, string) {
	w := new(bits.Writer)
	s := strings.Repeat("110", ahead)[:ahead]
	for _, x := range s {
		w.Put(uint64(x-'0'), 1)
	}
	return w, s
}

// checkWritten holds what a writer has against bits.
func checkWritten(t *testing.T, w *bits.Writer, want string) {
	t.Helper()
	if w.Len() != len(want) || !bytes.Equal(w.Bytes(), bytesOf(want)) {
		t.Fatalf("%d bits, %s, not %s", w.Len(), digitsOf(w.Bytes()), want)
	}
}

func TestPutOfTheExample(t *testing.T) {
	c := made(t, []uint8{1, 3, 3, 2})
	w, s := written(0)
	for _, x := range []struct {
		sym  int
		word string
	}{{0, "0"}, {3, "10"}, {1, "110"}, {2, "111"}, {1, "110"}, {0, "0"}} {
		if e := c.Put(w, x.sym); e != api.OK {
			t.Errorf("%d: error %d", x.sym, e)
		}
		s += x.word
		checkWritten(t, w, s)
	}
}

func TestPutStandsBehindWhatIsThere(t *testing.T) {
	for i, l := range rights(t) {
		c, words := made(t, l), plainWords(t, l)
		w, s := written(i % 19)
		for sym, word := range words {
			want := api.OK
			if word == "" {
				want = api.ErrArg
			}
			if e := c.Put(w, sym); e != want {
				t.Fatalf("%d: %d: error %d, not %d", l, sym, e, want)
			}
			if s += word; w.Len() != len(s) {
				t.Fatalf("%d: %d: %d bits, not %d", l, sym, w.Len(), len(s))
			}
		}
		checkWritten(t, w, s)
	}
}

func TestPutOfNoSymbol(t *testing.T) {
	for i, l := range rights(t) {
		c := made(t, l)
		w, s := written(i % 19)
		for _, sym := range strangers(len(l)) {
			if e := c.Put(w, sym); e != api.ErrArg {
				t.Fatalf("%d: %d: error %d", l, sym, e)
			}
		}
		checkWritten(t, w, s)
	}
}

func TestPutToNoWriter(t *testing.T) {
	for _, l := range few() {
		c := made(t, l)
		for _, sym := range append(strangers(len(l)), 0, 1, 2, 3) {
			if e := c.Put(nil, sym); e != api.ErrArg {
				t.Errorf("%d: %d: error %d", l, sym, e)
			}
		}
	}
}

// P9.3

// checkGet holds what a coder gets of bits against the chapter's words, and what is left behind it; what is refused is refused again.
func checkGet(t *testing.T, c *Coder, words []string, s string) {
	t.Helper()
	r := readerOf(s)
	want, wantErr := plainGet(words, s)
	left := len(s)
	if wantErr == api.OK {
		left -= len(words[want])
	}
	got, e := c.Get(r)
	if got != want || e != wantErr || r.Left() != left {
		t.Fatalf("%s of %q: %d, error %d, %d bits left, not %d, error %d, %d", s, words, got, e, r.Left(), want, wantErr, left)
	}
	if e == api.OK {
		return
	}
	if again, e := c.Get(r); again != want || e != wantErr || r.Left() != left {
		t.Fatalf("%s of %q, again: %d, error %d, %d bits left", s, words, again, e, r.Left())
	}
	if rest, _ := r.Peek(min(left, 64)); digits(rest, min(left, 64)) != s[:min(left, 64)] {
		t.Fatalf("%s of %q: another bit is next", s, words)
	}
}

func TestGetOfTheExamples(t *testing.T) {
	for _, x := range []struct {
		lens []uint8
		bits string
		sym  int
		e    api.Errno
	}{
		{[]uint8{1, 3, 3, 2}, "0", 0, api.OK}, {[]uint8{1, 3, 3, 2}, "10", 3, api.OK}, {[]uint8{1, 3, 3, 2}, "110", 1, api.OK}, {[]uint8{1, 3, 3, 2}, "111", 2, api.OK},
		{[]uint8{1, 3, 3, 2}, "", -1, api.ErrShort}, {[]uint8{1, 3, 3, 2}, "1", -1, api.ErrShort}, {[]uint8{1, 3, 3, 2}, "11", -1, api.ErrShort}, {[]uint8{1, 3, 3, 2}, "1111", 2, api.OK},
		{[]uint8{0, 1}, "0", 1, api.OK}, {[]uint8{0, 1}, "00", 1, api.OK}, {[]uint8{0, 1}, "01", 1, api.OK}, {[]uint8{0, 1}, "1", -1, api.ErrCode}, {[]uint8{0, 1}, "10", -1, api.ErrCode}, {[]uint8{0, 1}, "", -1, api.ErrShort},
		{nil, "", -1, api.ErrCode}, {nil, "0", -1, api.ErrCode}, {nil, "1", -1, api.ErrCode}, {[]uint8{0, 0}, "", -1, api.ErrCode}, {[]uint8{0, 0}, "0000000000000000", -1, api.ErrCode},
	} {
		r := readerOf(x.bits)
		sym, e := made(t, x.lens).Get(r)
		left := len(x.bits)
		if x.e == api.OK {
			left -= int(x.lens[x.sym])
		}
		if sym != x.sym || e != x.e || r.Left() != left {
			t.Errorf("%s of %d: %d, error %d, %d bits left", x.bits, x.lens, sym, e, r.Left())
		}
	}
}

// All bits up to as many as the longest word has, and one more.
func TestGetOfAllShortBits(t *testing.T) {
	for _, l := range few() {
		c, words := made(t, l), plainWords(t, l)
		longest := 1
		for _, word := range words {
			longest = max(longest, len(word))
		}
		for n := range longest + 2 {
			for x := range 1 << n {
				checkGet(t, c, words, digits(uint64(x), n))
			}
		}
	}
}

// Of each word: itself, with bits behind, and what is cut of it.
func TestGetOfEachWord(t *testing.T) {
	d := chance(2)
	for _, l := range rights(t) {
		c, words := made(t, l), plainWords(t, l)
		for _, word := range words {
			for _, s := range []string{word, word + "0", word + "1", word + digits(d.Uint64(), 64)} {
				checkGet(t, c, words, s)
			}
			cut := d.Intn(len(word) + 1)
			for _, s := range []string{word[:cut], word[:max(0, len(word)-1)]} {
				checkGet(t, c, words, s)
			}
		}
	}
}

// One word behind the other, from any place in a byte on.
func TestGetOfRows(t *testing.T) {
	d := chance(3)
	for _, l := range rights(t) {
		c, words := made(t, l), plainWords(t, l)
		var w bits.Writer
		skip := d.Intn(20)
		w.Put(0, skip)
		var syms []int
		for range 200 {
			if sym := d.Intn(len(l) + 1); sym < len(l) && words[sym] != "" {
				c.Put(&w, sym)
				syms = append(syms, sym)
			}
		}
		w.Put(0x2D, 7)
		r := bits.NewReader(w.Bytes())
		r.Skip(skip)
		for i, want := range syms {
			if got, e := c.Get(r); got != want || e != api.OK {
				t.Fatalf("%d: symbol %d is %d, error %d, not %d", l, i, got, e, want)
			}
		}
		if x, e := r.Get(7); x != 0x2D || e != api.OK {
			t.Fatalf("%d: behind the words %d, error %d", l, x, e)
		}
	}
}

func TestGetOfNoBits(t *testing.T) {
	for _, l := range few() {
		want := api.ErrCode
		if slices.ContainsFunc(l, func(x uint8) bool { return x > 0 }) {
			want = api.ErrShort
		}
		for _, r := range []*bits.Reader{nil, {}, bits.NewReader(nil), readerOf("")} {
			if sym, e := made(t, l).Get(r); sym != -1 || e != want {
				t.Errorf("%d: %d, error %d, not %d", l, sym, e, want)
			}
		}
	}
}

// P9.4

func TestPackOfTheExamples(t *testing.T) {
	for _, x := range []struct {
		lens []uint8
		syms []int
		want []byte
	}{
		{[]uint8{1, 3, 3, 2}, []int{0, 3, 1}, []byte{0x58}}, {[]uint8{1, 3, 3, 2}, nil, nil}, {nil, nil, nil}, {[]uint8{0, 1}, []int{1, 1}, []byte{0}}, {[]uint8{0, 1}, slices.Repeat([]int{1}, 9), []byte{0, 0}},
		{[]uint8{1, 3, 3, 2}, []int{2, 2, 2}, []byte{0xFF, 0x80}}, {[]uint8{1, 1}, []int{1, 0, 1, 0, 1, 0, 1, 1}, []byte{0xAB}}, {slices.Repeat([]uint8{8}, 256), []int{7, 255, 0}, []byte{7, 255, 0}},
	} {
		if got, e := Pack(x.lens, x.syms...); !bytes.Equal(got, x.want) || e != api.OK {
			t.Errorf("%d by %d: %x, error %d, not %x", x.syms, x.lens, got, e, x.want)
		}
		if got, e := Unpack(x.lens, len(x.syms), x.want); !slices.Equal(got, x.syms) || e != api.OK {
			t.Errorf("%x by %d: %d, error %d, not %d", x.want, x.lens, got, e, x.syms)
		}
	}
}

// symsOf tells n symbols that have a word.
func symsOf(d *rand.Rand, l []uint8, n int) []int {
	var used, syms []int
	for sym, x := range l {
		if x > 0 {
			used = append(used, sym)
		}
	}
	for len(syms) < n && len(used) > 0 {
		syms = append(syms, used[d.Intn(len(used))])
	}
	return syms
}

func TestPackIsTheWords(t *testing.T) {
	d := chance(4)
	for _, l := range rights(t) {
		words := plainWords(t, l)
		for _, n := range []int{1, 2, 3, 30} {
			syms := symsOf(d, l, n)
			want := ""
			for _, sym := range syms {
				want += words[sym]
			}
			if got, e := Pack(l, syms...); !bytes.Equal(got, bytesOf(want)) || e != api.OK {
				t.Fatalf("%d by %d: %x, error %d, not %s", syms, l, got, e, want)
			}
		}
	}
}

func TestPackOfWrongLengths(t *testing.T) {
	for _, l := range wrongs() {
		for _, syms := range [][]int{nil, {0}, {0, 0, 0}, {-1}, {len(l)}, {0, 400}} {
			if got, e := Pack(l, syms...); len(got) != 0 || e != api.ErrCode {
				t.Errorf("%d by %d: %x, error %d", syms, l, got, e)
			}
		}
	}
}

func TestPackOfNoSymbol(t *testing.T) {
	d := chance(5)
	for _, l := range rights(t) {
		wrong := strangers(len(l))
		if sym := slices.Index(l, 0); sym >= 0 {
			wrong = append(wrong, sym)
		}
		for _, sym := range wrong {
			for _, at := range []int{0, 3, 9} {
				syms := symsOf(d, l, 9)
				syms = slices.Insert(syms, min(at, len(syms)), sym)
				if got, e := Pack(l, syms...); len(got) != 0 || e != api.ErrArg {
					t.Fatalf("%d by %d: %x, error %d", syms, l, got, e)
				}
			}
		}
	}
}

// checkUnpack holds what is unpacked of bytes against the chapter's words.
func checkUnpack(t *testing.T, l []uint8, words []string, n int, b []byte) {
	t.Helper()
	want, wantErr := plainUnpack(words, n, digitsOf(b))
	if got, e := Unpack(l, n, b); !slices.Equal(got, want) || e != wantErr {
		t.Fatalf("%d of %x by %d: %d, error %d, not %d, error %d", n, b, l, got, e, want, wantErr)
	}
}

func TestUnpackOfAllShortBytes(t *testing.T) {
	for _, l := range few() {
		words := plainWords(t, l)
		for n := range 18 {
			checkUnpack(t, l, words, n, nil)
			for x := range 256 {
				checkUnpack(t, l, words, n, []byte{byte(x)})
				checkUnpack(t, l, words, n, []byte{byte(x), 0})
				checkUnpack(t, l, words, n, []byte{0xB6, byte(x)})
				checkUnpack(t, l, words, n, []byte{0, byte(x), 0x80})
			}
		}
	}
}

func TestUnpackOfAnyBytes(t *testing.T) {
	d := chance(6)
	for _, l := range rights(t) {
		words := plainWords(t, l)
		for range 4 {
			b := make([]byte, 1+d.Intn(20))
			d.Read(b)
			for _, n := range []int{0, 1, 2, d.Intn(40), 300} {
				checkUnpack(t, l, words, n, b)
			}
		}
	}
}

// What is left behind the last word: less than 8 bits, all of them 0.
func TestUnpackOfWhatIsLeft(t *testing.T) {
	all := slices.Repeat([]uint8{2}, 4)
	for n := range 9 {
		b, _ := Pack(all, slices.Repeat([]int{3}, n)...)
		if got, e := Unpack(all, n, b); len(got) != n || e != api.OK {
			t.Errorf("%d of %x: %d, error %d", n, b, got, e)
		}
		if got, e := Unpack(all, n, append(b, 0)); len(got) != 0 || e != api.ErrForm {
			t.Errorf("%d of %x and a byte: %d, error %d", n, b, got, e)
		}
		for left := 2 * n; left < 8*len(b); left++ {
			wrong := slices.Clone(b)
			wrong[left/8] |= 0x80 >> (left % 8)
			if got, e := Unpack(all, n, wrong); len(got) != 0 || e != api.ErrForm {
				t.Errorf("%d of %x: %d, error %d", n, wrong, got, e)
			}
		}
	}
}

func TestUnpackOfOtherCounts(t *testing.T) {
	for _, n := range []int{math.MinInt, math.MinInt32, -100000, -1, 100001, 1 << 17, math.MaxInt32, 1 << 32, math.MaxInt} {
		// ErrArg ahead of the lengths that aren't right, and of bits that aren't there.
		for _, l := range [][]uint8{nil, {1}, {1, 1}, {2}, make([]uint8, 301)} {
			for _, b := range [][]byte{nil, {0}, make([]byte, 12501)} {
				if got, e := Unpack(l, n, b); len(got) != 0 || e != api.ErrArg {
					t.Errorf("%d of %d bytes by %d: %d symbols, error %d", n, len(b), l, len(got), e)
				}
			}
		}
	}
}

func TestUnpackOfAsManyAsMayBe(t *testing.T) {
	for _, n := range []int{99999, 100000} {
		if got, e := Unpack([]uint8{1, 1}, n, make([]byte, 12500)); !slices.Equal(got, make([]int, n)) || e != api.OK {
			t.Errorf("%d: %d symbols, error %d", n, len(got), e)
		}
	}
	if got, e := Unpack([]uint8{1, 1}, 100000, make([]byte, 12499)); len(got) != 0 || e != api.ErrShort {
		t.Errorf("%d symbols, error %d", len(got), e)
	}
	// What is packed may be more.
	if b, e := Pack([]uint8{0, 1, 1}, slices.Repeat([]int{2}, 100008)...); !bytes.Equal(b, bytes.Repeat([]byte{0xFF}, 12501)) || e != api.OK {
		t.Errorf("%d bytes, error %d", len(b), e)
	}
}

func TestUnpackOfWrongLengths(t *testing.T) {
	for _, l := range wrongs() {
		for _, n := range []int{0, 1, 100000} {
			for _, b := range [][]byte{nil, {0}, {0xFF}, {0, 0, 0}} {
				if got, e := Unpack(l, n, b); len(got) != 0 || e != api.ErrCode {
					t.Errorf("%d of %x by %d: %d, error %d", n, b, l, got, e)
				}
			}
		}
	}
}

// The errors of the words are told ahead of what is left.
func TestUnpackOfWhatNoWordBegins(t *testing.T) {
	for _, x := range []struct {
		lens []uint8
		n    int
		b    []byte
		want api.Errno
	}{
		{[]uint8{0, 1}, 2, []byte{0x7F, 0xFF}, api.ErrCode}, {[]uint8{0, 1}, 1, []byte{0x7F, 0xFF}, api.ErrForm}, {[]uint8{0, 1}, 9, []byte{0}, api.ErrShort}, {[]uint8{0, 1}, 9, []byte{1}, api.ErrCode},
		{nil, 1, nil, api.ErrCode}, {nil, 1, []byte{0}, api.ErrCode}, {nil, 0, []byte{0}, api.ErrForm}, {nil, 0, nil, api.OK}, {[]uint8{0, 0}, 100000, nil, api.ErrCode},
		{[]uint8{1, 3, 3, 2}, 5, []byte{0x58}, api.OK}, {[]uint8{1, 3, 3, 2}, 6, []byte{0x58}, api.ErrShort}, {[]uint8{1, 3, 3, 2}, 2, []byte{0x58}, api.ErrForm}, {[]uint8{1, 3, 3, 2}, 3, []byte{0xFF}, api.ErrShort},
	} {
		if got, e := Unpack(x.lens, x.n, x.b); e != x.want || e != api.OK && len(got) != 0 {
			t.Errorf("%d of %x by %d: %d, error %d, not %d", x.n, x.b, x.lens, got, e, x.want)
		}
	}
}

// P9.5

func TestNoCoder(t *testing.T) {
	var c *Coder
	for _, sym := range append(strangers(4), 0, 1, 2, 3, 256) {
		if got := c.Len(sym); got != 0 {
			t.Errorf("the length of %d is %d", sym, got)
		}
		w, s := written(5)
		if e := c.Put(w, sym); e != api.ErrCode {
			t.Errorf("%d: error %d", sym, e)
		}
		checkWritten(t, w, s)
		if e := c.Put(nil, sym); e != api.ErrCode {
			t.Errorf("%d, no writer: error %d", sym, e)
		}
	}
	for _, r := range []*bits.Reader{nil, {}, bits.NewReader(nil), readerOf("0"), readerOf("1"), readerOf(strings.Repeat("01", 40))} {
		left := r.Left()
		if sym, e := c.Get(r); sym != -1 || e != api.ErrCode || r.Left() != left {
			t.Errorf("of %d bits: %d, error %d, %d left", left, sym, e, r.Left())
		}
	}
}

// P9.6

func TestWhatWasPackedIsUnpacked(t *testing.T) {
	d := chance(7)
	for _, l := range rights(t) {
		for _, n := range []int{0, 1, 7, 100, 2000} {
			syms := symsOf(d, l, n)
			b, e := Pack(l, syms...)
			if e != api.OK {
				t.Fatalf("%d: error %d", l, e)
			}
			if got, e := Unpack(l, len(syms), b); !slices.Equal(got, syms) || e != api.OK {
				t.Fatalf("%d by %d: %d, error %d", syms, l, got, e)
			}
		}
	}
}

// rowOf tells symbols that are so often.
func rowOf(d *rand.Rand, often []uint32) []int {
	var syms []int
	for sym, n := range often {
		syms = append(syms, slices.Repeat([]int{sym}, int(n))...)
	}
	d.Shuffle(len(syms), func(i, j int) { syms[i], syms[j] = syms[j], syms[i] })
	return syms
}

// bitsOf tells how many bits symbols have by lengths, if all of them have a word.
func bitsOf(l []uint8, syms []int) (int, bool) {
	c, e := New(l)
	if e != api.OK {
		return 0, false
	}
	var w bits.Writer
	for _, sym := range syms {
		if c.Put(&w, sym) != api.OK {
			return 0, false
		}
	}
	return w.Len(), true
}

func TestNoOtherLengthsHaveFewerBits(t *testing.T) {
	d := chance(8)
	for _, often := range [][]uint32{{5, 1, 1, 2}, {1, 1, 1, 1, 1}, {1, 1, 2, 3, 5}, {9, 0, 1, 1, 1}, {0, 6, 0, 0, 0}, {40, 30, 20, 10, 5}, {3, 3, 0, 3, 2}, {1, 100, 1, 100, 1}} {
		syms := rowOf(d, often)
		found, _ := lens.Lens(often, 15)
		least, ok := bitsOf(found, syms)
		if !ok {
			t.Fatalf("%d: nothing is packed by %d", often, found)
		}
		if b, e := Pack(found, syms...); len(b) != (least+7)/8 || e != api.OK {
			t.Errorf("%d: %d bytes of %d bits, error %d", often, len(b), least, e)
		}
		forAll(5, 5, func(l []uint8) {
			if n, ok := bitsOf(l, syms); ok && n < least {
				t.Errorf("%d: %d bits by %d, %d by %d", often, least, found, n, l)
			}
		})
	}
}

func TestNoOtherLengthsOfManyHaveFewerBits(t *testing.T) {
	d := chance(9)
	for range 12 {
		often := make([]uint32, 2+d.Intn(299))
		for i := range often {
			often[i] = uint32(1 + d.Intn(1+d.Intn(60)))
		}
		syms := rowOf(d, often)
		found, _ := lens.Lens(often, 15)
		least, ok := bitsOf(found, syms)
		if !ok {
			t.Fatalf("%d: nothing is packed by %d", often, found)
		}
		for range 12 {
			others := slices.Clone(often)
			for i := range others {
				others[i] = uint32(1 + d.Intn(1<<d.Intn(12)))
			}
			l, _ := lens.Lens(others, 9+d.Intn(7))
			if n, ok := bitsOf(l, syms); !ok || n < least {
				t.Errorf("%d: %d bits by %d, %d by %d", often, least, found, n, l)
			}
		}
	}
}

// Memory

func TestACoderKeepsNothingOfItsLengths(t *testing.T) {
	for _, l := range few() {
		room := append(slices.Clone(l), 7, 1, 1, 1)
		kept := slices.Clone(room)
		c, words := made(t, room[:len(l)]), plainWords(t, l)
		if !slices.Equal(room, kept) {
			t.Errorf("%d: what is handed in is changed", l)
		}
		for i := range room {
			room[i] = 9
		}
		for sym, word := range words {
			if c.Len(sym) != len(word) {
				t.Errorf("%d: the length of %d is %d", l, sym, c.Len(sym))
			}
			checkGet(t, c, words, word+"01")
			w, s := written(1)
			c.Put(w, sym)
			checkWritten(t, w, s+word)
		}
	}
}

func TestPackAndUnpackKeepNothing(t *testing.T) {
	l, syms := []uint8{1, 3, 3, 2, 9, 9}, []int{0, 3, 1, 2, 2, 3, 9, 9}
	first, _ := Pack(l[:4], syms[:6]...)
	want := slices.Clone(first)
	second, _ := Pack(l[:4], syms[:6]...)
	clear(second[:cap(second)])
	room := append(slices.Clone(first), 0xFF, 0xFF)
	got, _ := Unpack(l[:4], 6, room[:len(first)])
	again, _ := Unpack(l[:4], 6, room[:len(first)])
	if !slices.Equal(l, []uint8{1, 3, 3, 2, 9, 9}) || !slices.Equal(syms, []int{0, 3, 1, 2, 2, 3, 9, 9}) || !bytes.Equal(room, append(slices.Clone(want), 0xFF, 0xFF)) {
		t.Error("what is handed in is changed")
	}
	clear(room)
	clear(again[:cap(again)])
	if !bytes.Equal(first, want) || !slices.Equal(got, syms[:6]) {
		t.Error("memory is shared")
	}
}

// One coder for many writers and readers in turn: what it tells hangs on none of them.
func TestACoderStays(t *testing.T) {
	l := []uint8{1, 3, 3, 2}
	c, words := made(t, l), plainWords(t, l)
	other := made(t, []uint8{2, 2, 2, 2})
	for range 3 {
		for _, s := range []string{"", "1", "11", "0", "10", "110", "111", "0110"} {
			checkGet(t, c, words, s)
			checkGet(t, other, plainWords(t, []uint8{2, 2, 2, 2}), s)
			w, ahead := written(3)
			c.Put(w, 9)
			c.Put(w, 2)
			checkWritten(t, w, ahead+"111")
		}
	}
}
