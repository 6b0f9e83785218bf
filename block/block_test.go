package block

import (
	"bytes"
	"math"
	"math/rand"
	"slices"
	"strings"
	"testing"

	"firkin/api"
	"firkin/bits"
	"firkin/canon"
	"firkin/huff"
	"firkin/lz"
	"firkin/toks"
)

// chance tells numbers that look like chance, the same in each run.
func chance(seed int64) *rand.Rand { return rand.New(rand.NewSource(seed)) }

// short tells bytes, or how many there are of many.
func short(b []byte) []byte { return b[:min(len(b), 40)] }

// plainNum tells a number's bytes, as chapter 3 tells them.
func plainNum(x int) []byte {
	var b []byte
	for x > 127 {
		b = append(b, byte(x%128)+128)
		x /= 128
	}
	return append(b, byte(x))
}

// plainSum tells the sum of bytes as four bytes, as chapter 1 tells it.
func plainSum(b []byte) []byte {
	sum := uint32(math.MaxUint32)
	for _, x := range b {
		sum ^= uint32(x)
		for range 8 {
			low := sum & 1
			sum >>= 1
			if low == 1 {
				sum ^= 0xEDB88320
			}
		}
	}
	sum = ^sum
	return []byte{byte(sum), byte(sum >> 8), byte(sum >> 16), byte(sum >> 24)}
}

// summed tells bytes with their sum behind them.
func summed(b ...byte) []byte { return slices.Concat(b, plainSum(b)) }

// plainFrame tells a frame of these parts, whether they fit each other or not.
func plainFrame(way byte, many int, follows []byte) []byte {
	return summed(slices.Concat([]byte{way}, plainNum(many), plainNum(len(follows)), follows)...)
}

// plainWrite tells the frame of bytes as the chapter's words tell it.
func plainWrite(t testing.TB, b []byte, plain bool) []byte {
	t.Helper()
	if plain {
		return plainFrame(0, len(b), b)
	}
	if s := bitsOf(t, lz.Find(b)); len(s) < len(b) {
		return plainFrame(1, len(b), s)
	}
	return plainFrame(0, len(b), b)
}

// bitsOf tells the bits of tokens.
func bitsOf(t testing.TB, l []api.Token) []byte {
	t.Helper()
	s, e := toks.Write(l)
	if e != api.OK {
		t.Fatalf("Write of %d tokens: error %d", len(l), e)
	}
	return s
}

// plainNumber tells the number that bytes begin with, if it is 32768 at most, and what stands behind it, as chapter 3 tells them.
func plainNumber(b []byte) (int, []byte, api.Errno) {
	x, above := 0, false
	for i := range 10 {
		if i == len(b) {
			return 0, nil, api.ErrShort
		}
		y := b[i]
		if i == 9 && y != 1 || i > 0 && y == 0 {
			return 0, nil, api.ErrForm
		}
		above = above || i > 2 // it isn't 0 there, or not the last one
		if !above {
			x += int(y%128) << (7 * i)
		}
		if y >= 128 {
			continue
		}
		if above || x > 32768 {
			return 0, nil, api.ErrLimit
		}
		return x, b[i+1:], api.OK
	}
	panic("a tenth byte is the last one")
}

// told is what Read and Way tell.
type told struct {
	raw  []byte
	long int
	way  int
	e    api.Errno
}

// plainRead tells what is to be told of bytes, as the chapter's words tell it.
func plainRead(b []byte) told {
	if len(b) == 0 {
		return told{e: api.ErrShort}
	}
	way := b[0]
	if way > 1 {
		return told{e: api.ErrForm}
	}
	many, behind, e := plainNumber(b[1:])
	if e != api.OK {
		return told{e: e}
	}
	n, behind, e := plainNumber(behind)
	if e != api.OK {
		return told{e: e}
	}
	if many > 1032*n+64 {
		return told{e: api.ErrLimit}
	}
	if len(behind) < n+4 {
		return told{e: api.ErrShort}
	}
	head := len(b) - len(behind)
	if !bytes.Equal(behind[n:n+4], plainSum(b[:head+n])) {
		return told{e: api.ErrSum}
	}
	raw := behind[:n]
	if way == 1 {
		l, e := toks.Read(raw, many)
		if e != api.OK {
			return told{e: e}
		}
		if raw, e = lz.Play(l, many); e != api.OK {
			return told{e: e}
		}
	}
	if len(raw) != many {
		return told{e: api.ErrForm}
	}
	return told{raw: raw, long: head + n + 4, way: int(way)}
}

// checkRead holds what is read against the chapter's words.
func checkRead(t *testing.T, b []byte) api.Errno {
	t.Helper()
	want := plainRead(b)
	raw, long, e := Read(b)
	if e != want.e || long != want.long || !bytes.Equal(raw, want.raw) {
		t.Fatalf("Read(%x, %d bytes): %q, %d, error %d, want %q, %d, error %d", short(b), len(b), short(raw), long, e, short(want.raw), want.long, want.e)
	}
	if e != api.OK && raw != nil {
		t.Fatalf("Read(%x, %d bytes): %q beside error %d", short(b), len(b), short(raw), e)
	}
	if way, e := Way(b); e != want.e || way != want.way {
		t.Fatalf("Way(%x, %d bytes): %d, error %d, want %d, error %d", short(b), len(b), way, e, want.way, want.e)
	}
	return e
}

// wantError sees that both calls have this error, and that the chapter's words have it, too.
func wantError(t *testing.T, what string, b []byte, want api.Errno) {
	t.Helper()
	if e := checkRead(t, b); e != want {
		t.Errorf("%s: Read(%x, %d bytes): error %d, want %d", what, short(b), len(b), e, want)
	}
}

// noise tells n bytes that can't be squeezed.
func noise(r *rand.Rand, n int) []byte {
	b := make([]byte, n)
	for i := range b {
		b[i] = byte(r.Intn(256))
	}
	return b
}

// few tells n bytes of so few.
func few(r *rand.Rand, n, kinds int) []byte {
	b := make([]byte, n)
	for i := range b {
		b[i] = byte('a' + r.Intn(kinds))
	}
	return b
}

// sizes tells how many bytes rows have about which a number's bytes, or the limit, are passed.
func sizes() []int {
	return []int{0, 1, 2, 3, 30, 126, 127, 128, 129, 1000, 16382, 16383, 16384, 16385, 32766, 32767, 32768}
}

// rows tells bytes of many sizes, of which some are squeezed and some aren't.
func rows() [][]byte {
	r := chance(1)
	out := [][]byte{nil, []byte("ab"), []byte(strings.Repeat("disk full on db7, net up; ", 30))}
	for _, n := range sizes() {
		out = append(out, noise(r, n), few(r, n, 1), few(r, n, 2), few(r, n, 20), make([]byte, n))
	}
	for n := range 300 {
		out = append(out, few(r, n, 1+r.Intn(10)))
	}
	return out
}

// P12.1

func TestWriteExamples(t *testing.T) {
	text := []byte(strings.Repeat("all work and no play ", 40))
	same := bytes.Repeat([]byte{'a'}, 300)
	for _, x := range []struct {
		b     []byte
		plain bool
		want  []byte
	}{
		{[]byte("ab"), false, summed(0, 2, 2, 'a', 'b')},
		{[]byte("ab"), true, summed(0, 2, 2, 'a', 'b')},
		{nil, false, summed(0, 0, 0)},
		{[]byte{}, true, summed(0, 0, 0)},
		{text, true, summed(append([]byte{0, 0xC8, 6, 0xC8, 6}, text...)...)},
		{text, false, plainFrame(1, 840, bitsOf(t, lz.Find(text)))},
		{same, true, summed(append([]byte{0, 0xAC, 2, 0xAC, 2}, same...)...)},
		{same, false, plainFrame(1, 300, bitsOf(t, []api.Token{{Lit: 'a'}, {Len: 257, Dist: 1}, {Len: 42, Dist: 1}}))},
	} {
		b, e := Write(x.b, x.plain)
		if e != api.OK || !bytes.Equal(b, x.want) {
			t.Errorf("Write(%q, %v): %x, error %d, want %x", short(x.b), x.plain, short(b), e, short(x.want))
		}
	}
}

func TestWriteAll(t *testing.T) {
	ways := map[byte]int{}
	for _, row := range rows() {
		for _, plain := range []bool{false, true} {
			b, e := Write(row, plain)
			if want := plainWrite(t, row, plain); e != api.OK || !bytes.Equal(b, want) {
				t.Fatalf("Write(%q, %d bytes, %v): %x, error %d, want %x", short(row), len(row), plain, short(b), e, short(want))
			}
			if plain && b[0] != 0 {
				t.Fatalf("%q is squeezed, though plain is asked for", short(row))
			}
			ways[b[0]]++
		}
	}
	if ways[0] < 100 || ways[1] < 100 || len(ways) != 2 {
		t.Error("too few of a way", ways)
	}
}

// TestWriteEdge: the bits are just fewer bytes than the bytes, just as many, just more.
func TestWriteEdge(t *testing.T) {
	seen := map[int]int{}
	r := chance(2)
	for range 4000 {
		row := few(r, 10+r.Intn(60), 1+r.Intn(6))
		more := len(bitsOf(t, lz.Find(row))) - len(row)
		seen[more]++
		want := byte(0)
		if more < 0 {
			want = 1
		}
		if b, e := Write(row, false); e != api.OK || b[0] != want || !bytes.Equal(b, plainWrite(t, row, false)) {
			t.Fatalf("Write(%q), whose bits are %d bytes more: %x, error %d", row, more, b, e)
		}
	}
	if seen[-1] < 10 || seen[0] < 10 || seen[1] < 10 {
		t.Error("too few at the edge", seen)
	}
}

func TestWriteLimit(t *testing.T) {
	for _, n := range []int{32769, 32770, 40000, 1 << 20} {
		for _, plain := range []bool{false, true} {
			if b, e := Write(make([]byte, n), plain); e != api.ErrLimit || b != nil {
				t.Errorf("Write of %d bytes, %v: %d bytes, error %d", n, plain, len(b), e)
			}
		}
	}
	for _, plain := range []bool{false, true} {
		if b, e := Write(make([]byte, 32768), plain); e != api.OK || len(b) == 0 {
			t.Errorf("Write of 32768 bytes, %v: %d bytes, error %d", plain, len(b), e)
		}
	}
}

// P12.2, P12.3

func TestReadExamples(t *testing.T) {
	for _, x := range []struct {
		b []byte
		e api.Errno
	}{
		{nil, api.ErrShort}, {[]byte{}, api.ErrShort},
		{[]byte{0}, api.ErrShort}, {[]byte{1}, api.ErrShort}, {[]byte{2}, api.ErrForm}, {[]byte{3, 0, 0}, api.ErrForm}, {[]byte{128}, api.ErrForm}, {[]byte{255, 255}, api.ErrForm},
		{summed(2, 2, 2, 'a', 'b'), api.ErrForm}, {summed(128, 2, 2, 'a', 'b'), api.ErrForm}, {summed(129, 2, 2, 'a', 'b'), api.ErrForm},
		{[]byte{0, 0, 0}, api.ErrShort}, {[]byte{0, 0, 0, 0, 0, 0}, api.ErrShort}, {[]byte{0, 0, 0, 0, 0, 0, 0}, api.ErrSum}, {summed(0, 0, 0), api.OK},
		{summed(0, 2, 2, 'a', 'b'), api.OK}, {summed(0, 2, 2, 'a', 'b')[:8], api.ErrShort}, {[]byte{0, 2, 2, 'a'}, api.ErrShort},
		{summed(0, 3, 2, 'a', 'b'), api.ErrForm}, {summed(0, 1, 2, 'a', 'b'), api.ErrForm}, {summed(0, 0, 1, 'a'), api.ErrForm}, {summed(0, 1, 0), api.ErrForm},
		{summed(1, 0, 0), api.ErrShort}, {summed(1, 2, 1, 'a'), api.ErrShort}, {summed(1, 2, 2, 'a', 'b'), api.ErrShort},
	} {
		wantError(t, "example", x.b, x.e)
	}
	for _, b := range [][]byte{summed(0, 2, 2, 'a', 'b'), append(summed(0, 2, 2, 'a', 'b'), summed(0, 1, 1, 'c')...)} {
		if raw, n, e := Read(b); e != api.OK || n != 9 || string(raw) != "ab" {
			t.Errorf("Read(%x): %q, %d, error %d", b, raw, n, e)
		}
		if way, e := Way(b); e != api.OK || way != 0 {
			t.Errorf("Way(%x): %d, error %d", b, way, e)
		}
	}
	b := plainFrame(1, 300, bitsOf(t, []api.Token{{Lit: 'a'}, {Len: 257, Dist: 1}, {Len: 42, Dist: 1}}))
	if raw, n, e := Read(append(b, 7, 7)); e != api.OK || n != len(b) || string(raw) != strings.Repeat("a", 300) {
		t.Errorf("Read(%x): %q, %d, error %d", b, short(raw), n, e)
	}
	if way, e := Way(append(b, 7, 7)); e != api.OK || way != 1 {
		t.Errorf("Way(%x): %d, error %d", b, way, e)
	}
}

// TestReadNumbers: what may be wrong with either number, with much behind it, or nothing.
func TestReadNumbers(t *testing.T) {
	full := bytes.Repeat([]byte{255}, 9)
	for _, x := range []struct {
		num []byte
		e   api.Errno
	}{
		{nil, api.ErrShort}, {[]byte{128}, api.ErrShort}, {[]byte{255, 255}, api.ErrShort}, {full, api.ErrShort},
		{[]byte{128, 0}, api.ErrForm}, {[]byte{255, 128, 0}, api.ErrForm}, {[]byte{255, 255, 255, 255, 0}, api.ErrForm},
		{append(slices.Clone(full), 0), api.ErrForm}, {append(slices.Clone(full), 2), api.ErrForm}, {append(slices.Clone(full), 129), api.ErrForm}, {append(slices.Clone(full), 127), api.ErrForm},
		{plainNum(32769), api.ErrLimit}, {plainNum(32768 + 16384), api.ErrLimit}, {plainNum(1 << 21), api.ErrLimit}, {plainNum(math.MaxInt32), api.ErrLimit}, {plainNum(1 << 32), api.ErrLimit}, {plainNum(1<<32 + 2), api.ErrLimit},
		{plainNum(math.MaxInt), api.ErrLimit}, {append(slices.Clone(full), 1), api.ErrLimit}, {append(bytes.Repeat([]byte{128}, 9), 1), api.ErrLimit},
	} {
		for _, way := range []byte{0, 1} {
			for _, head := range [][]byte{{way}, {way, 0}, {way, 2}, {way, 64}, {way, 0x80, 0x80, 2}} {
				b := slices.Concat(head, x.num)
				wantError(t, "number", b, x.e)
				if x.e != api.ErrShort {
					wantError(t, "number", summed(b...), x.e)
					wantError(t, "number", slices.Concat(b, make([]byte, 50)), x.e)
					wantError(t, "number", slices.Concat(b, make([]byte, 1<<17)), x.e)
				}
			}
		}
	}
}

// TestReadOrder: of several things that are wrong the first one is told.
func TestReadOrder(t *testing.T) {
	const wrongWay, longMany, longFollows, above, cut, sum, content, all = 1, 2, 4, 8, 16, 32, 64, 128
	first := func(wrong int) api.Errno {
		switch {
		case wrong&wrongWay != 0:
			return api.ErrForm
		case wrong&(longMany|longFollows) != 0:
			return api.ErrLimit
		case wrong&above != 0:
			return api.ErrLimit
		case wrong&cut != 0:
			return api.ErrShort
		case wrong&sum != 0:
			return api.ErrSum
		case wrong&content != 0:
			return api.ErrForm
		}
		return api.OK
	}
	for wrong := range all {
		if wrong&above != 0 && wrong&content == 0 { // so many bytes can't stand in so few as they are
			continue
		}
		way, many, n := []byte{0}, plainNum(10), plainNum(10)
		follows := []byte("disk full.")
		if wrong&content != 0 {
			many = plainNum(11)
		}
		if wrong&above != 0 {
			many, n, follows = plainNum(65), plainNum(0), nil
		}
		if wrong&wrongWay != 0 {
			way = []byte{2}
		}
		if wrong&longMany != 0 {
			many = plainNum(32769)
		}
		if wrong&longFollows != 0 {
			n = plainNum(32769)
		}
		b := summed(slices.Concat(way, many, n, follows)...)
		if wrong&sum != 0 {
			b[len(b)-4] ^= 1
		}
		if wrong&cut != 0 {
			b = b[:len(b)-1]
		}
		if e := checkRead(t, b); e != first(wrong) {
			t.Errorf("wrong %07b: Read(%x): error %d, want %d", wrong, b, e, first(wrong))
		}
	}
}

// TestReadFirstNumber: of two numbers that are wrong the first one is told.
func TestReadFirstNumber(t *testing.T) {
	formed, long, ends := []byte{128, 0}, plainNum(32769), []byte{128}
	for _, x := range []struct {
		b []byte
		e api.Errno
	}{
		{slices.Concat([]byte{0}, formed, long), api.ErrForm}, {slices.Concat([]byte{0}, long, formed), api.ErrLimit},
		{slices.Concat([]byte{0}, formed, ends), api.ErrForm}, {slices.Concat([]byte{0}, long, ends), api.ErrLimit},
		{slices.Concat([]byte{0}, formed), api.ErrForm}, {slices.Concat([]byte{0}, long), api.ErrLimit},
		{slices.Concat([]byte{0, 100}, formed), api.ErrForm}, {[]byte{0, 100}, api.ErrShort}, {slices.Concat([]byte{1, 100}, ends), api.ErrShort},
		{slices.Concat([]byte{2}, formed), api.ErrForm}, {slices.Concat([]byte{2}, long), api.ErrForm}, {[]byte{2, 128}, api.ErrForm},
	} {
		wantError(t, "two numbers", x.b, x.e)
	}
}

// TestReadTimes: just as many bytes as what follows may be of, and one more.
func TestReadTimes(t *testing.T) {
	for _, n := range []int{0, 1, 2, 3, 30, 31} {
		most := 1032*n + 64
		for _, way := range []byte{0, 1} {
			follows := bytes.Repeat([]byte{255}, n)
			wantError(t, "one more", plainFrame(way, most+1, follows), api.ErrLimit)
			wantError(t, "one more, cut", plainFrame(way, most+1, follows)[:1+len(plainNum(most))+1], api.ErrLimit)
			wantError(t, "just as many, cut", plainFrame(way, most, follows)[:1+len(plainNum(most))+1+n+3], api.ErrShort)
			turned := plainFrame(way, most, follows)
			turned[len(turned)-1] ^= 128
			wantError(t, "just as many, a sum that is wrong", turned, api.ErrSum)
		}
		wantError(t, "just as many", plainFrame(0, most, bytes.Repeat([]byte{255}, n)), api.ErrForm)
	}
	wantError(t, "nothing follows", plainFrame(1, 64, nil), api.ErrShort)
	wantError(t, "the most", plainFrame(0, 32768, make([]byte, 32)), api.ErrForm)
	for _, n := range []int{1, 2, 127} { // the bits of few tokens may be of far more bytes than there are of them
		l := append([]api.Token{{Lit: 'a'}}, slices.Repeat([]api.Token{{Len: 257, Dist: 1}}, n)...)
		wantError(t, "long matches", plainFrame(1, 1+257*n, bitsOf(t, l)), api.OK)
	}
}

// TestReadPlain: other numbers of bytes than follow, as they are.
func TestReadPlain(t *testing.T) {
	for _, n := range []int{0, 1, 2, 63, 127, 128, 300} {
		b := bytes.Repeat([]byte{'x'}, n)
		for many := range 400 {
			want := api.ErrForm
			if many == n {
				want = api.OK
			} else if many > 1032*n+64 {
				want = api.ErrLimit
			}
			wantError(t, "as they are", plainFrame(0, many, b), want)
		}
	}
}

// TestReadTokens: all that may be wrong with the bits of tokens, or with the tokens, and what may be though it isn't written so.
func TestReadTokens(t *testing.T) {
	lit := func(x byte) api.Token { return api.Token{Lit: x} }
	a, b := lit('a'), lit('b')
	match := func(n, dist int) api.Token { return api.Token{Len: n, Dist: dist} }
	for _, x := range []struct {
		what string
		many int
		l    []api.Token
		e    api.Errno
	}{
		{"none", 0, nil, api.OK}, {"none of one", 1, nil, api.ErrForm}, {"none of 64", 64, nil, api.ErrForm},
		{"bits that are more than the bytes", 2, []api.Token{a, b}, api.OK}, {"not by matches", 6, []api.Token{a, a, a, a, a, a}, api.OK},
		{"not the longest match", 8, []api.Token{a, match(3, 1), match(4, 2)}, api.OK},
		{"fewer", 3, []api.Token{a, b}, api.ErrForm}, {"fewer, by a match", 7, []api.Token{a, b, match(4, 2)}, api.ErrForm},
		{"more", 1, []api.Token{a, b}, api.ErrLimit}, {"more, by a match", 5, []api.Token{a, b, match(4, 2)}, api.ErrLimit}, {"more than none", 0, []api.Token{a}, api.ErrLimit},
		{"ahead of the first", 3, []api.Token{match(3, 1)}, api.ErrRange}, {"one too far", 6, []api.Token{a, b, match(4, 3)}, api.ErrRange}, {"far too far", 258, []api.Token{a, match(257, 4095)}, api.ErrRange},
		{"too far, and fewer", 9, []api.Token{a, b, match(4, 3)}, api.ErrRange}, {"too far, and more", 5, []api.Token{a, b, match(4, 3)}, api.ErrLimit}, {"too far, then more", 6, []api.Token{a, b, match(4, 3), a}, api.ErrLimit},
	} {
		s := bitsOf(t, x.l)
		wantError(t, x.what, plainFrame(1, x.many, s), x.e)
		wantError(t, x.what+", with more behind", append(plainFrame(1, x.many, s), 1, 2, 3), x.e)
		if e := checkRead(t, plainFrame(1, x.many, s[:len(s)-3])); e != api.ErrShort && e != api.ErrLimit {
			t.Errorf("%s, cut: error %d", x.what, e)
		}
		if x.e == api.OK || x.e == api.ErrForm || x.e == api.ErrRange { // what is wrong with the bits is told ahead of what is wrong with the tokens
			wantError(t, x.what+", a byte 0 more", plainFrame(1, x.many, append(slices.Clone(s), 0)), api.ErrForm)
		}
	}
}

// rowOfLengths tells n lengths, which are 0 but for those that are given.
func rowOfLengths(n int, given map[int]uint8) []uint8 {
	l := make([]uint8, n)
	for sym, long := range given {
		l[sym] = long
	}
	return l
}

// stream tells these lengths as bits, and behind them whatever is put there.
func stream(t *testing.T, syms, fars map[int]uint8, put func(w *bits.Writer, c *huff.Coder)) []byte {
	t.Helper()
	var w bits.Writer
	lengths := rowOfLengths(265, syms)
	c, e := huff.New(lengths)
	if e != api.OK || canon.Write(&w, lengths) != api.OK || canon.Write(&w, rowOfLengths(12, fars)) != api.OK {
		t.Fatal("lengths that aren't right")
	}
	put(&w, c)
	return w.Bytes()
}

// TestReadCodes: other right lengths than are written, symbols without a word, bits behind the end.
func TestReadCodes(t *testing.T) {
	syms := map[int]uint8{'a': 2, 'b': 3, 'c': 3, api.SymEnd: 2, api.SymMatch: 2} // the words 00, 110, 111, 01, 10
	alone := map[int]uint8{'a': 1}
	stretch := func(word uint64, n int, list ...int) func(w *bits.Writer, c *huff.Coder) {
		return func(w *bits.Writer, c *huff.Coder) {
			for _, sym := range list {
				c.Put(w, sym)
			}
			w.Put(word, n)
		}
	}
	for _, x := range []struct {
		what string
		many int
		s    []byte
		e    api.Errno
	}{
		{"other lengths", 3, stream(t, syms, nil, stretch(0, 0, 'a', 'b', 'a', api.SymEnd)), api.OK},
		{"other lengths of distances, too", 4, stream(t, syms, map[int]uint8{0: 1, 11: 1}, stretch(0b0_01, 3, 'a', api.SymMatch)), api.OK},
		{"the same, 2048 back", 4, stream(t, syms, map[int]uint8{0: 1, 11: 1}, stretch(0b1_00000000000_01, 14, 'a', api.SymMatch)), api.ErrRange},
		{"no end", 0, stream(t, alone, nil, stretch(0, 20)), api.ErrLimit},
		{"no end, of many", 64, stream(t, alone, nil, stretch(0, 20)), api.ErrShort},
		{"no word", 64, stream(t, alone, nil, stretch(1, 1, 'a', 'a')), api.ErrCode},
		{"no word, but too much ahead", 1, stream(t, alone, nil, stretch(1, 1, 'a', 'a')), api.ErrLimit},
		{"no symbol has a word", 0, stream(t, nil, nil, stretch(0, 0)), api.ErrCode},
		{"no distance has a word", 4, stream(t, syms, nil, stretch(0, 20, 'a', api.SymMatch)), api.ErrCode},
		{"a bit behind the end", 1, stream(t, syms, nil, stretch(1, 1, 'a', api.SymEnd)), api.ErrForm},
		{"a bit behind the end, and fewer", 2, stream(t, syms, nil, stretch(1, 1, 'a', api.SymEnd)), api.ErrForm},
		{"lengths that aren't right", 3, bytes.Repeat([]byte{255}, 200), api.ErrCode},
	} {
		wantError(t, x.what, plainFrame(1, x.many, x.s), x.e)
	}
}

// TestReadCut: of each right frame each cut one.
func TestReadCut(t *testing.T) {
	for _, row := range rows() {
		for _, plain := range []bool{false, true} {
			b, _ := Write(row, plain)
			for n := range b {
				if n > 400 && n < len(b)-5 {
					continue
				}
				wantError(t, "cut", b[:n], api.ErrShort)
			}
		}
	}
}

// TestReadChance: frames in which bytes were changed, with a right sum put behind them, or not, and rows of chance.
func TestReadChance(t *testing.T) {
	r := chance(3)
	seen := map[api.Errno]int{}
	for range 20000 {
		way, n := byte(r.Intn(2)), r.Intn(80)
		row := few(r, n, 1+r.Intn(8))
		follows := row
		if way == 1 {
			follows = bitsOf(t, lz.Find(row))
		}
		b := slices.Concat([]byte{way}, plainNum(n), plainNum(len(follows)), follows)
		for range r.Intn(3) {
			at := r.Intn(len(b))
			if r.Intn(3) == 0 {
				at = r.Intn(min(len(b), 4))
			}
			b[at] ^= 1 << r.Intn(8)
		}
		if r.Intn(8) > 0 {
			b = append(b, plainSum(b)...)
		}
		seen[checkRead(t, b)]++
		seen[checkRead(t, noise(r, r.Intn(30)))]++
	}
	for _, e := range []api.Errno{api.OK, api.ErrShort, api.ErrForm, api.ErrSum, api.ErrLimit, api.ErrCode} {
		if seen[e] < 10 {
			t.Error("error", e, "is seldom seen:", seen)
		}
	}
}

// TestReadSmall: all rows of few bytes, with right sums.
func TestReadSmall(t *testing.T) {
	for a := range 4 {
		for many := range 256 {
			for n := range 256 {
				b := []byte{byte(a), byte(many), byte(n)}
				checkRead(t, b)
				checkRead(t, summed(b...))
				checkRead(t, summed(append(b, 'x')...))
			}
		}
	}
}

// P12.4

func TestThereAndBack(t *testing.T) {
	for _, row := range rows() {
		for _, plain := range []bool{false, true} {
			b, e := Write(row, plain)
			if e != api.OK {
				t.Fatalf("Write of %d bytes: error %d", len(row), e)
			}
			for _, behind := range [][]byte{nil, {0}, {255, 1, 2}, b, make([]byte, 40000)} {
				all := slices.Concat(b, behind)
				if raw, n, e := Read(all); e != api.OK || n != len(b) || !bytes.Equal(raw, row) {
					t.Fatalf("%d bytes, %d behind: %d bytes, %d, error %d", len(row), len(behind), len(raw), n, e)
				}
				if way, e := Way(all); e != api.OK || way != int(b[0]) {
					t.Fatalf("%d bytes, %d behind: way %d, error %d", len(row), len(behind), way, e)
				}
			}
		}
	}
}

// TestLong: a frame is at most 11 bytes longer, and one of the longest is so much longer.
func TestLong(t *testing.T) {
	longest := 0
	for _, row := range rows() {
		for _, plain := range []bool{false, true} {
			b, _ := Write(row, plain)
			if len(b) > len(row)+11 {
				t.Errorf("%d bytes: a frame of %d", len(row), len(b))
			}
			longest = max(longest, len(b))
		}
	}
	if longest != 32768+11 {
		t.Error(longest)
	}
}

// turn turns those bits of a stretch that are 1; the lowest bit of a byte comes first.
func turn(b []byte, at int, stretch uint32) []byte {
	out := slices.Clone(b)
	for ; stretch != 0; stretch >>= 1 {
		out[at/8] ^= byte(stretch&1) << (at % 8)
		at++
	}
	return out
}

// checkTurned sees that a frame with bits turned in what follows, or in the sum, has no right sum.
func checkTurned(t *testing.T, b []byte, at int, stretch uint32) {
	t.Helper()
	turned := turn(b, at, stretch)
	raw, n, e := Read(turned)
	way, f := Way(turned)
	if e != api.ErrSum || f != api.ErrSum || n != 0 || way != 0 || raw != nil {
		t.Fatalf("a frame of %d bytes, %b turned from bit %d on: %q, %d, error %d, way %d, error %d", len(b), stretch, at, short(raw), n, e, way, f)
	}
}

func TestTurned(t *testing.T) {
	r := chance(4)
	for _, row := range [][]byte{nil, []byte("ab"), []byte(strings.Repeat("disk ", 30)), noise(r, 20), few(r, 200, 3)} {
		for _, plain := range []bool{false, true} {
			b, _ := Write(row, plain)
			head := 1 + len(plainNum(len(row))) + len(plainNum(len(b)))
			for long := 1; long <= 32; long++ {
				for at := 8 * head; at+long <= 8*len(b); at++ {
					checkTurned(t, b, at, 1<<long-1)
					checkTurned(t, b, at, 1<<(long-1)|1|r.Uint32()>>(32-long))
				}
			}
		}
	}
	b, _ := Write(noise(r, 32768), false)
	for range 300 {
		checkTurned(t, b, 56+r.Intn(8*len(b)-56-32), r.Uint32()|1)
	}
}

// What holds everywhere

// TestMemory: what is handed in stays, its spare room, too; answers are apart.
func TestMemory(t *testing.T) {
	for _, row := range [][]byte{[]byte("ab"), []byte(strings.Repeat("disk ", 60))} {
		for _, plain := range []bool{false, true} {
			roomy := slices.Concat(row, bytes.Repeat([]byte{7}, 50))
			before := slices.Clone(roomy)
			b, _ := Write(roomy[:len(row)], plain)
			again, _ := Write(roomy[:len(row)], plain)
			if !bytes.Equal(roomy, before) || !bytes.Equal(b, again) {
				t.Error("Write has changed its bytes")
			}
			clear(again[:cap(again)])
			clear(roomy)
			if !bytes.Equal(b, plainWrite(t, row, plain)) {
				t.Error("frames hang together with bytes, or with others")
			}
			full := slices.Concat(b, []byte{1, 2, 3})
			before = slices.Clone(full)
			first, _, _ := Read(full[:len(b)])
			second, _, _ := Read(full[:len(b)])
			if way, e := Way(full[:len(b)]); e != api.OK || way != int(b[0]) || !bytes.Equal(full, before) {
				t.Error("Read or Way has changed its bytes", way, e)
			}
			clear(second[:cap(second)])
			clear(full)
			if !bytes.Equal(first, row) {
				t.Error("bytes hang together with a frame, or with others")
			}
		}
	}
}
