package toks

import (
	"bytes"
	"math"
	"math/rand"
	"slices"
	"strconv"
	"strings"
	"testing"

	"firkin/api"
	"firkin/bits"
	"firkin/canon"
	"firkin/lens"
	"firkin/lz"
)

// chance tells numbers that look like chance, the same in each run.
func chance(seed int64) *rand.Rand { return rand.New(rand.NewSource(seed)) }

func lit(x byte) api.Token { return api.Token{Lit: x} }

func match(n, dist int) api.Token { return api.Token{Len: n, Dist: dist} }

// lits tells the bytes of a text as tokens.
func lits(s string) []api.Token {
	var l []api.Token
	for i := range len(s) {
		l = append(l, lit(s[i]))
	}
	return l
}

// digits tells a number, as n bits, as text.
func digits(x uint64, n int) string {
	if n == 0 {
		return ""
	}
	s := strconv.FormatUint(x, 2)
	return strings.Repeat("0", n-len(s)) + s
}

// digitsOf tells the bits of bytes as text.
func digitsOf(b []byte) string {
	var s strings.Builder
	for _, x := range b {
		s.WriteString(digits(uint64(x), 8))
	}
	return s.String()
}

// bytesOf tells bits, as text, as bytes; bits 0 fill the last one up.
func bytesOf(s string) []byte {
	b := make([]byte, (len(s)+7)/8)
	for i := range s {
		b[i/8] |= (s[i] - '0') << (7 - i%8)
	}
	return b
}

// plainSplit tells the piece of a token that may be, as the chapter's words tell it.
func plainSplit(t api.Token) api.Piece {
	if t.Len == 0 {
		return api.Piece{Sym: int(t.Lit)}
	}
	v, b, c := t.Len-2, 0, 0
	two := func(n int) int { return int(math.Pow(2, float64(n))) }
	for two(b+1) <= v {
		b++
	}
	for two(c+1) <= t.Dist {
		c++
	}
	return api.Piece{Sym: 257 + b, Len: v - two(b), Dist: c, Far: t.Dist - two(c)}
}

// eachToken hands on all tokens that may be.
func eachToken(see func(api.Token)) {
	for x := range 256 {
		see(lit(byte(x)))
	}
	for n := 3; n <= 257; n++ {
		for dist := 1; dist <= 4095; dist++ {
			see(match(n, dist))
		}
	}
}

// wrongTokens tells tokens that may not be.
func wrongTokens() []api.Token {
	l := []api.Token{{Lit: 1, Len: 3, Dist: 1}, {Lit: 255, Len: 257, Dist: 4095}, {Dist: 1}, {Lit: 'a', Dist: 1}, {Len: 3}, {Lit: 'a', Len: 3}}
	for _, n := range []int{math.MinInt, -257, -3, -1, 1, 2, 258, 259, 514, 1 << 16, 1<<32 + 3, math.MaxInt} {
		l = append(l, match(n, 1), match(n, 0), match(n, 4095))
	}
	for _, dist := range []int{math.MinInt, -4095, -1, 0, 4096, 8191, 1 << 16, 1<<32 + 1, math.MaxInt} {
		l = append(l, match(3, dist), match(257, dist))
	}
	return l
}

// plainCount tells how often the symbols of both codes are, as the chapter's words tell it.
func plainCount(l []api.Token) ([]uint32, []uint32) {
	syms, fars := make([]uint32, 265), make([]uint32, 12)
	for _, t := range l {
		p := plainSplit(t)
		syms[p.Sym]++
		if t.Len > 0 {
			fars[p.Dist]++
		}
	}
	syms[256]++
	return syms, fars
}

// lengthsAsBits tells lengths as bits, as chapter 8 tells them.
func lengthsAsBits(l []uint8) string {
	var w bits.Writer
	if canon.Write(&w, l) != api.OK {
		panic("lengths that aren't right")
	}
	return digitsOf(w.Bytes())[:w.Len()]
}

// code tells the words of a code as texts of bits; that of a symbol without one is "".
type code []string

// codeOf tells the code of right lengths.
func codeOf(l []uint8) code {
	codes, e := canon.Codes(l)
	if e != api.OK {
		panic("lengths that aren't right")
	}
	words := make(code, len(l))
	for sym := range l {
		words[sym] = digits(uint64(codes[sym]), int(l[sym]))
	}
	return words
}

// get tells the symbol that bits begin with, as chapter 9 tells it.
func (c code) get(s string) (int, api.Errno) {
	begun := false
	for sym, word := range c {
		if word != "" && strings.HasPrefix(s, word) {
			return sym, api.OK
		}
		begun = begun || word != "" && strings.HasPrefix(word, s)
	}
	if begun {
		return -1, api.ErrShort
	}
	return -1, api.ErrCode
}

// pieceAsBits tells the bits of a piece by both codes.
func pieceAsBits(p api.Piece, syms, fars code) string {
	if p.Sym < 257 {
		return syms[p.Sym]
	}
	return syms[p.Sym] + digits(uint64(p.Len), p.Sym-257) + fars[p.Dist] + digits(uint64(p.Far), p.Dist)
}

// tokensAsBits tells the bits of tokens by lengths of both codes, the end, too.
func tokensAsBits(l []api.Token, symLens, farLens []uint8) string {
	var s strings.Builder
	s.WriteString(lengthsAsBits(symLens) + lengthsAsBits(farLens))
	syms, fars := codeOf(symLens), codeOf(farLens)
	for _, t := range l {
		s.WriteString(pieceAsBits(plainSplit(t), syms, fars))
	}
	return s.String() + syms[256]
}

// lengthsFor tells the lengths that chapter 7 finds for tokens.
func lengthsFor(t testing.TB, l []api.Token) ([]uint8, []uint8) {
	t.Helper()
	syms, fars := plainCount(l)
	symLens, e := lens.Lens(syms, 15)
	farLens, f := lens.Lens(fars, 15)
	if e != api.OK || f != api.OK {
		t.Fatal(e, f)
	}
	return symLens, farLens
}

// sizeOf tells how many bytes tokens have.
func sizeOf(l []api.Token) int {
	n := 0
	for _, t := range l {
		n += max(1, t.Len)
	}
	return n
}

// plainRead tells the tokens of bytes as the chapter's words tell them.
func plainRead(b []byte, most int) ([]api.Token, api.Errno) {
	if most < 0 {
		return nil, api.ErrArg
	}
	r := bits.NewReader(b)
	symLens, e := canon.Read(r, 265)
	if e != api.OK {
		return nil, e
	}
	farLens, e := canon.Read(r, 12)
	if e != api.OK {
		return nil, e
	}
	s := digitsOf(b)
	return plainTokens(s[len(s)-r.Left():], codeOf(symLens), codeOf(farLens), most)
}

// plainTokens tells the tokens of the bits behind the lengths.
func plainTokens(s string, syms, fars code, most int) ([]api.Token, api.Errno) {
	number := func(n int) int {
		x := 0
		for _, c := range s[:n] {
			x = 2*x + int(c-'0')
		}
		s = s[n:]
		return x
	}
	var l []api.Token
	for {
		sym, e := syms.get(s)
		if e != api.OK {
			return nil, e
		}
		s = s[len(syms[sym]):]
		if sym == 256 {
			break
		}
		t := lit(byte(sym))
		if sym > 256 {
			n := sym - 257
			if len(s) < n {
				return nil, api.ErrShort
			}
			long := 1<<n + number(n) + 2
			c, e := fars.get(s)
			if e != api.OK {
				return nil, e
			}
			s = s[len(fars[c]):]
			if len(s) < c {
				return nil, api.ErrShort
			}
			t = match(long, 1<<c+number(c))
		}
		l = append(l, t)
		if sizeOf(l) > most {
			return nil, api.ErrLimit
		}
	}
	if len(s) >= 8 || strings.Contains(s, "1") {
		return nil, api.ErrForm
	}
	return l, api.OK
}

// checkRead holds what is read against the chapter's words.
func checkRead(t *testing.T, b []byte, most int) api.Errno {
	t.Helper()
	l, e := Read(b, most)
	want, wantE := plainRead(b, most)
	if e != wantE || !slices.Equal(l, want) {
		t.Fatalf("Read(%s, %d): %v, error %d, want %v, error %d", digitsOf(b), most, l, e, want, wantE)
	}
	if e != api.OK && l != nil {
		t.Fatalf("Read(%s, %d): %v beside error %d", digitsOf(b), most, l, e)
	}
	return e
}

// chanceTokens tells n tokens, of few kinds or of many.
func chanceTokens(r *rand.Rand, n int) []api.Token {
	few, matches, long, far := 1+r.Intn(256), r.Intn(5), 1+r.Intn(255), 1+r.Intn(4095)
	var l []api.Token
	for range n {
		if r.Intn(4) < matches {
			l = append(l, match(3+r.Intn(long), 1+r.Intn(far)))
		} else {
			l = append(l, lit(byte(r.Intn(few))))
		}
	}
	return l
}

// rows tells rows of tokens: none, of bytes or matches alone, of one kind, of many, chance, those of texts.
func rows() [][]api.Token {
	text := strings.Repeat("disk full on db7, disk 4 of 9; net up, net down, net up again; ", 5)
	out := [][]api.Token{
		nil, lits("a"), lits("\x00"), lits("\xff\xff"), lits("aaaaaaaaa"), lits("abcabcabc"), {match(3, 1)}, {match(257, 4095)},
		{match(3, 1), match(3, 1), match(3, 1)}, append(lits("a"), match(3, 1)), append(lits("abc"), match(10, 6), match(10, 7), match(4, 2)), lz.Find([]byte(text)),
	}
	var all []api.Token
	for x := range 256 {
		all = append(all, lit(byte(x)))
	}
	for b := range 8 {
		for c := range 12 {
			all = append(all, match(2+1<<b, 1<<c), match(1+2<<b, 2<<c-1))
		}
	}
	out = append(out, all)
	var uneven []api.Token // how often they are doubles from one to the next, so that words are as long as may be
	for k := range 14 {
		for range 1 << k {
			uneven = append(uneven, lit(byte(k)), match(3, 1<<min(k, 11)))
		}
	}
	out = append(out, uneven)
	r := chance(1)
	for k := range 150 {
		out = append(out, chanceTokens(r, r.Intn(1+k*4)))
	}
	return out
}

// P11.1

func TestSplitExamples(t *testing.T) {
	for _, x := range []struct {
		t api.Token
		p api.Piece
	}{
		{lit(0), api.Piece{}},
		{lit('a'), api.Piece{Sym: 97}},
		{lit(255), api.Piece{Sym: 255}},
		{match(3, 1), api.Piece{Sym: 257}},
		{match(4, 2), api.Piece{Sym: 258, Dist: 1}},
		{match(5, 3), api.Piece{Sym: 258, Len: 1, Dist: 1, Far: 1}},
		{match(6, 4), api.Piece{Sym: 259, Dist: 2}},
		{match(10, 6), api.Piece{Sym: 260, Dist: 2, Far: 2}},
		{match(129, 2047), api.Piece{Sym: 263, Len: 63, Dist: 10, Far: 1023}},
		{match(130, 2048), api.Piece{Sym: 264, Dist: 11}},
		{match(257, 4095), api.Piece{Sym: 264, Len: 127, Dist: 11, Far: 2047}},
	} {
		if p, e := Split(x.t); e != api.OK || p != x.p {
			t.Errorf("Split(%v): %v, error %d, want %v", x.t, p, e, x.p)
		}
		if k, e := Join(x.p); e != api.OK || k != x.t {
			t.Errorf("Join(%v): %v, error %d, want %v", x.p, k, e, x.t)
		}
	}
}

// TestSplitAll is of P11.5, too: each piece is joined to the token that it was split from.
func TestSplitAll(t *testing.T) {
	eachToken(func(k api.Token) {
		p, e := Split(k)
		if want := plainSplit(k); e != api.OK || p != want {
			t.Fatalf("Split(%v): %v, error %d, want %v", k, p, e, want)
		}
		if back, e := Join(p); e != api.OK || back != k {
			t.Fatalf("Join(%v): %v, error %d, want %v", p, back, e, k)
		}
	})
}

func TestSplitWrong(t *testing.T) {
	for _, k := range wrongTokens() {
		if p, e := Split(k); e != api.ErrCode || p != (api.Piece{}) {
			t.Errorf("Split(%v): %v, error %d", k, p, e)
		}
	}
}

// plainJoins tells whether a piece is a token's: of a byte nothing but the symbol, of a match numbers of as many bits as there may be.
func plainJoins(p api.Piece) bool {
	if p.Sym >= 0 && p.Sym <= 255 {
		return p.Len == 0 && p.Dist == 0 && p.Far == 0
	}
	fits := func(x, n int) bool { return x >= 0 && x < 1<<n }
	return p.Sym >= 257 && p.Sym <= 264 && fits(p.Len, p.Sym-257) && p.Dist >= 0 && p.Dist <= 11 && fits(p.Far, p.Dist)
}

func checkJoin(t *testing.T, p api.Piece) {
	t.Helper()
	k, e := Join(p)
	if !plainJoins(p) {
		if e != api.ErrCode || k != (api.Token{}) {
			t.Fatalf("Join(%v): %v, error %d", p, k, e)
		}
	} else if e != api.OK || plainSplit(k) != p {
		t.Fatalf("Join(%v): %v, error %d", p, k, e)
	}
}

func TestJoinAllNear(t *testing.T) {
	for sym := -2; sym <= 270; sym++ {
		for long := -1; long <= 129; long++ {
			for dist := -1; dist <= 13; dist++ {
				for _, far := range []int{-1, 0, 1, 1<<max(dist, 0) - 1, 1 << max(dist, 0)} {
					checkJoin(t, api.Piece{Sym: sym, Len: long, Dist: dist, Far: far})
				}
			}
		}
	}
}

func TestJoinAnyNumbers(t *testing.T) {
	some := []int{math.MinInt, math.MinInt + 1, -1 << 32, -256, -3, -2, -1, 0, 1, 2, 62, 63, 64, 65, 127, 128, 255, 256, 257, 258, 264, 265, 320, 321, 511, 512, 2047, 2048, 4095, 1 << 32, 1<<62 + 1, math.MaxInt - 256, math.MaxInt - 1, math.MaxInt}
	for _, sym := range some {
		for _, long := range some {
			for _, dist := range some {
				for _, far := range some {
					checkJoin(t, api.Piece{Sym: sym, Len: long, Dist: dist, Far: far})
				}
			}
		}
	}
}

// P11.2

func TestCountExamples(t *testing.T) {
	syms, fars, e := Count()
	want, none := make([]uint32, 265), make([]uint32, 12)
	want[256] = 1
	if e != api.OK || !slices.Equal(syms, want) || !slices.Equal(fars, none) {
		t.Error(syms, fars, e)
	}
	syms, fars, e = Count(lit('a'), match(3, 1), lit(0), lit('a'), match(10, 6), match(3, 7))
	want['a'], want[0], want[257], want[260] = 2, 1, 2, 1
	if e != api.OK || !slices.Equal(syms, want) || !slices.Equal(fars, []uint32{1, 0, 2, 0, 0, 0, 0, 0, 0, 0, 0, 0}) {
		t.Error(syms, fars, e)
	}
}

func TestCountRows(t *testing.T) {
	for _, l := range rows() {
		syms, fars, e := Count(l...)
		wantSyms, wantFars := plainCount(l)
		if e != api.OK || !slices.Equal(syms, wantSyms) || !slices.Equal(fars, wantFars) {
			t.Fatalf("Count(%v): %d, %d, error %d", l, syms, fars, e)
		}
	}
}

// TestCountMany: what Write refuses is counted.
func TestCountMany(t *testing.T) {
	l := append(slices.Repeat(lits("a"), 70000), slices.Repeat([]api.Token{match(257, 4095)}, 80000)...)
	syms, fars, e := Count(l...)
	if e != api.OK || syms['a'] != 70000 || syms[264] != 80000 || syms[256] != 1 || fars[11] != 80000 {
		t.Error(syms, fars, e)
	}
}

func TestCountWrong(t *testing.T) {
	for _, k := range wrongTokens() {
		for at := range 4 {
			l := slices.Insert(lits("abc"), at, k)
			if syms, fars, e := Count(l...); e != api.ErrCode || syms != nil || fars != nil {
				t.Errorf("Count(%v): %d, %d, error %d", l, syms, fars, e)
			}
		}
	}
}

// P11.3

func TestWriteExamples(t *testing.T) {
	row := func(n int) string { return "0000" + digits(uint64(n-1), 6) }
	fours := strings.Repeat(row(64), 4)
	for _, x := range []struct {
		l    []api.Token
		want string
	}{
		// the end alone
		{nil, fours + "0001" + row(8) + row(12) + "0"},
		// a byte and the end
		{lits("a"), row(64) + row(33) + "0001" + row(64) + row(64) + row(30) + "0001" + row(8) + row(12) + "01"},
		{lits("\x00\x00"), "0001" + row(64) + row(64) + row(64) + row(63) + "0001" + row(8) + row(12) + "001"},
		// a match with no bits behind its symbols
		{[]api.Token{match(3, 1)}, fours + "0001" + "0001" + row(7) + "0001" + row(11) + "1" + "0" + "0"},
		// 10 less 2 is 8 and 0 in three bits; 6 is 4 and 2 in two bits
		{[]api.Token{match(10, 6)}, fours + "0001" + row(3) + "0001" + row(4) + row(2) + "0001" + row(9) + "1" + "000" + "0" + "10" + "0"},
		// 257 less 2 is 128 and 127; 4095 is 2048 and 2047; 5 less 2 is 2 and 1; 3 is 2 and 1
		{
			[]api.Token{match(257, 4095), match(257, 4095), match(5, 3)},
			fours + "0010" + row(1) + "0010" + row(5) + "0001" + row(1) + "0001" + row(9) + "0001" + strings.Repeat("0"+"1111111"+"1"+"11111111111", 2) + "11" + "1" + "0" + "1" + "10",
		},
	} {
		if b, e := Write(x.l); e != api.OK || !bytes.Equal(b, bytesOf(x.want)) {
			t.Errorf("Write(%v): %s, error %d, want %s", x.l, digitsOf(b), e, x.want)
		}
	}
	if b, e := Write([]api.Token{}); e != api.OK || len(b) != 9 {
		t.Error(b, e)
	}
}

func TestWriteRows(t *testing.T) {
	for _, l := range rows() {
		symLens, farLens := lengthsFor(t, l)
		want := bytesOf(tokensAsBits(l, symLens, farLens))
		if b, e := Write(l); e != api.OK || !bytes.Equal(b, want) {
			t.Fatalf("Write(%v): %s, error %d, want %s", l, digitsOf(b), e, digitsOf(want))
		}
	}
}

func TestWriteMany(t *testing.T) {
	r := chance(2)
	for _, kind := range [][]api.Token{lits("a"), {match(257, 4095)}, nil} {
		l := slices.Repeat(kind, 32769)
		if kind == nil {
			l = chanceTokens(r, 32769)
		}
		if b, e := Write(l); e != api.ErrLimit || b != nil {
			t.Errorf("32769 of %v: %d bytes, error %d", kind, len(b), e)
		}
		b, e := Write(l[:32768])
		symLens, farLens := lengthsFor(t, l[:32768])
		if e != api.OK || !bytes.Equal(b, bytesOf(tokensAsBits(l[:32768], symLens, farLens))) {
			t.Errorf("32768 of %v: %d bytes, error %d", kind, len(b), e)
		}
	}
}

func TestWriteWrong(t *testing.T) {
	for _, k := range wrongTokens() {
		for at := range 4 {
			l := slices.Insert(lits("abc"), at, k)
			if b, e := Write(l); e != api.ErrCode || b != nil {
				t.Errorf("Write(%v): %x, error %d", l, b, e)
			}
		}
	}
	many := slices.Repeat(lits("a"), 32768)
	many[32767] = match(2, 1)
	if b, e := Write(many); e != api.ErrCode || b != nil {
		t.Error(len(b), e)
	}
	if b, e := Write(append(many, lit('a'))); e != api.ErrLimit || b != nil { // that there are too many is told ahead
		t.Error(len(b), e)
	}
}

// P11.4

// someLens tells lengths of n symbols, some of which have one.
func someLens(n int, length map[int]uint8) []uint8 {
	l := make([]uint8, n)
	for sym, x := range length {
		l[sym] = x
	}
	return l
}

type shape struct{ syms, fars map[int]uint8 }

// shapes tells right lengths of both codes: with the end and without, with matches and without, of one word, of none.
func shapes() []shape {
	ends := map[int]uint8{256: 1}
	none := map[int]uint8{}
	two := map[int]uint8{0: 1, 1: 1}
	eight := map[int]uint8{257: 3, 258: 3, 259: 3, 260: 3, 261: 3, 262: 3, 263: 3, 264: 3}
	deep := map[int]uint8{}
	for k := range 15 {
		deep[250+k] = uint8(k + 1)
	}
	deep[249] = 15
	fars := map[int]uint8{0: 4, 1: 4, 2: 4, 3: 4, 4: 4, 5: 4, 6: 4, 7: 4, 8: 3, 9: 3, 10: 3, 11: 3}
	return []shape{
		{none, none}, {none, two}, {ends, none}, {ends, two}, {map[int]uint8{'a': 1}, none}, {map[int]uint8{264: 1}, map[int]uint8{11: 1}}, {map[int]uint8{264: 1}, none},
		{map[int]uint8{'a': 1, 256: 1}, none}, {map[int]uint8{'a': 1, 'b': 1}, two}, {map[int]uint8{257: 1, 256: 1}, none}, {map[int]uint8{257: 1, 256: 1}, map[int]uint8{0: 1}},
		{map[int]uint8{257: 1, 256: 1}, map[int]uint8{3: 1}}, {map[int]uint8{258: 1, 256: 1}, two}, {map[int]uint8{264: 1, 256: 1}, map[int]uint8{11: 1, 4: 2, 5: 2}},
		{map[int]uint8{'x': 2, 'y': 2, 260: 2, 256: 2}, map[int]uint8{0: 2, 1: 2, 2: 2, 3: 2}}, {eight, fars}, {deep, fars},
	}
}

// head tells the lengths of both codes as bits.
func (x shape) head() string {
	return lengthsAsBits(someLens(265, x.syms)) + lengthsAsBits(someLens(12, x.fars))
}

// TestReadFew: behind the lengths stand all bits of up to 10, and what fills the last byte up.
func TestReadFew(t *testing.T) {
	seen := map[api.Errno]int{}
	for _, x := range shapes() {
		head := x.head()
		for n := range 11 {
			for k := range 1 << n {
				b := bytesOf(head + digits(uint64(k), n))
				for _, most := range []int{0, 3, 10000} {
					seen[checkRead(t, b, most)]++
				}
			}
		}
	}
	for _, e := range []api.Errno{api.OK, api.ErrShort, api.ErrForm, api.ErrLimit, api.ErrCode} {
		if seen[e] < 100 {
			t.Errorf("error %d is seen just %d times", e, seen[e])
		}
	}
}

func TestReadChance(t *testing.T) {
	r := chance(3)
	for _, x := range shapes() {
		head := x.head()
		for range 300 {
			var s strings.Builder
			for range r.Intn(400) {
				s.WriteByte("0001011111"[r.Intn(10)])
			}
			b := bytesOf(head + s.String())
			for _, most := range []int{0, r.Intn(60), r.Intn(1000), math.MaxInt} {
				checkRead(t, b, most)
			}
		}
	}
}

// TestReadCut: bits that are cut anywhere, and bits that are turned.
func TestReadCut(t *testing.T) {
	for i, l := range rows() {
		b, _ := Write(l)
		if len(b) > 150 {
			continue
		}
		for n := range b {
			if e := checkRead(t, b[:n], math.MaxInt); e != api.ErrShort {
				t.Fatalf("%d bytes of %d of row %d: error %d", n, len(b), i, e)
			}
		}
		for at := range 8 * len(b) {
			c := slices.Clone(b)
			c[at/8] ^= 128 >> (at % 8)
			checkRead(t, c, sizeOf(l))
		}
	}
}

// TestReadLengths: faults of the lengths are told as chapter 8 tells them, those of the 265 ahead.
func TestReadLengths(t *testing.T) {
	row := func(n int) string { return "0000" + digits(uint64(n-1), 6) }
	fours := strings.Repeat(row(64), 4)
	for _, x := range []struct {
		s string
		e api.Errno
	}{
		{"", api.ErrShort},
		{fours + "0001", api.ErrShort},
		{fours + "0010" + row(8) + row(12) + "00", api.ErrCode},
		{fours + "0001" + row(9), api.ErrCode},
		{fours + row(64), api.ErrCode},
		{fours + "0001" + row(4) + row(4) + row(12) + "0", api.ErrCode},
		{fours + row(9) + "0001" + "0010" + "0010", api.ErrShort}, // no symbol has a word, but the lengths of the 12 aren't there
		{fours + row(9) + row(12), api.ErrCode},
		{fours + "0001" + row(8), api.ErrShort},
		{fours + "0001" + row(8) + row(13) + "0", api.ErrCode},
		{fours + "0001" + row(8) + row(11) + "0010" + "0", api.ErrCode},
		{fours + "0001" + row(8) + "0001" + "0001" + row(10) + "0", api.OK},
		{fours + "0001" + row(8) + "0001" + "0001" + "0001" + row(9) + "0", api.ErrCode},
	} {
		if l, e := Read(bytesOf(x.s), 9); e != x.e || len(l) > 0 {
			t.Errorf("Read(%s, 9): %v, error %d, want %d", x.s, l, e, x.e)
		}
		checkRead(t, bytesOf(x.s), 9)
	}
}

// TestReadOtherLengths: any right lengths do, not just those that Write finds.
func TestReadOtherLengths(t *testing.T) {
	l := append(lits("xyx"), match(10, 2), lit('y'), match(17, 15), match(10, 1))
	even := map[int]uint8{0: 4, 1: 4, 2: 4, 3: 4, 4: 4, 5: 4, 6: 4, 7: 4, 8: 3, 9: 3, 10: 3, 11: 3}
	deep := map[int]uint8{'x': 15, 'y': 15, 260: 14, 256: 13}
	for k := 1; k <= 12; k++ {
		deep[k] = uint8(k)
	}
	for _, x := range []shape{
		{map[int]uint8{'x': 3, 'y': 3, 'q': 3, 260: 2, 261: 3, 256: 2}, map[int]uint8{0: 2, 1: 2, 2: 2, 3: 2}},
		{deep, even},
	} {
		b := bytesOf(tokensAsBits(l, someLens(265, x.syms), someLens(12, x.fars)))
		if got, e := Read(b, sizeOf(l)); e != api.OK || !slices.Equal(got, l) {
			t.Errorf("%v: %v, error %d", x, got, e)
		}
	}
}

// TestReadWords: of each place of a match the error that the chapter names.
func TestReadWords(t *testing.T) {
	long := shape{map[int]uint8{264: 1, 256: 1}, map[int]uint8{11: 1}} // the end 0, the match 1 and seven bits, the distance 0 and eleven bits
	far := shape{map[int]uint8{264: 1, 256: 1}, nil}                   // no distance has a word
	near := shape{map[int]uint8{256: 1, 257: 1}, nil}                  // nor here, and the match has no bits
	one := shape{map[int]uint8{'a': 1}, nil}                           // there is no end
	m := "1" + "0000001" + "0" + "00000000010"
	for _, x := range []struct {
		shape
		s    string
		most int
		l    []api.Token
		e    api.Errno
	}{
		{long, m + "0", 131, []api.Token{match(131, 2050)}, api.OK},
		{long, m + "0", 130, nil, api.ErrLimit},
		{long, "1" + "0000001" + "1", 0, nil, api.ErrCode},
		{long, m + m + "1" + "0000001" + "1", 262, nil, api.ErrCode},
		{long, m + m + "1" + "0000001" + "1", 261, nil, api.ErrLimit},
		{far, "1" + "0000001", 0, nil, api.ErrCode},
		{near, "1", 9, nil, api.ErrCode},
		{near, "0", 0, nil, api.OK},
		{one, "000", math.MaxInt, nil, api.ErrShort},
		{one, "000", 2, nil, api.ErrLimit},
		{one, "0001", 3, nil, api.ErrCode},
		{one, "0001", 2, nil, api.ErrLimit},
	} {
		b := bytesOf(x.head() + x.s)
		if l, e := Read(b, x.most); e != x.e || !slices.Equal(l, x.l) {
			t.Errorf("%v, %s, most %d: %v, error %d, want %v, error %d", x.shape, x.s, x.most, l, e, x.l, x.e)
		}
		checkRead(t, b, x.most)
	}
}

// TestReadEndsTooSoon: the bytes end at each place of a match: within its word, its length, its distance, and right behind each of them.
func TestReadEndsTooSoon(t *testing.T) {
	m := "0" + "1111111" + "11" + "11111111111"
	for k := range 8 { // fillers let the match begin at each place of a byte
		x := shape{map[int]uint8{264: 1, 256: 2, 'a': 3, 'b': 3}, map[int]uint8{11: 2, 10: 2, 9: 1}} // the match 0, the end 10, a 110, b 111; the distance 11
		s := x.head()
		for range k {
			s += "111"
		}
		for n := range len(m) {
			cut := s + m[:n]
			if len(cut)%8 != 0 {
				continue
			}
			if l, e := Read(bytesOf(cut), math.MaxInt); e != api.ErrShort || l != nil {
				t.Errorf("%d fillers, %d bits of a match: %v, error %d", k, n, l, e)
			}
		}
		b := bytesOf(s + m + "10")
		if l, e := Read(b, math.MaxInt); e != api.OK || !slices.Equal(l, append(slices.Repeat(lits("b"), k), match(257, 4095))) {
			t.Errorf("%d fillers: %v, error %d", k, l, e)
		}
	}
}

// TestReadLimit: the first token that is too much tells it, ahead of what is wrong behind it, and behind what is wrong ahead of it.
func TestReadLimit(t *testing.T) {
	x := shape{map[int]uint8{'a': 2, 'b': 2, 257: 2, 256: 2}, map[int]uint8{0: 1}}
	a, b, end, m, bad := "00", "01", "10", "110", "111" // the last one has a distance without a word
	for _, c := range []struct {
		s    string
		most int
		e    api.Errno
	}{
		{end, 0, api.OK}, {a + end, 1, api.OK}, {a + end, 0, api.ErrLimit}, {m + end, 3, api.OK}, {m + end, 2, api.ErrLimit}, {a + m + b + end, 5, api.OK}, {a + m + b + end, 4, api.ErrLimit},
		{a + m + b + end, 3, api.ErrLimit}, {a + bad, 1, api.ErrCode}, {a + bad, 0, api.ErrLimit}, {a + m + bad, 4, api.ErrCode}, {a + m + bad, 3, api.ErrLimit}, {bad, 0, api.ErrCode},
		{end + "000000001", 0, api.ErrForm}, {a + end + "0000001", 0, api.ErrLimit}, {a + end + "1", 1, api.ErrForm},
		{a + end + "1", math.MaxInt, api.ErrForm}, {a + end, -1, api.ErrArg}, {bad, -1, api.ErrArg}, {a + end, math.MinInt, api.ErrArg},
	} {
		bits := bytesOf(x.head() + c.s)
		if l, e := Read(bits, c.most); e != c.e || e != api.OK && l != nil {
			t.Errorf("%s, most %d: %v, error %d, want %d", c.s, c.most, l, e, c.e)
		}
		checkRead(t, bits, c.most)
	}
	for _, most := range []int{-1, math.MinInt} {
		if l, e := Read(nil, most); e != api.ErrArg || l != nil {
			t.Error(l, e)
		}
	}
}

// TestReadEnds: all that may be left behind the end.
func TestReadEnds(t *testing.T) {
	for _, n := range []int{0, 1, 2, 3, 4, 5, 6, 7, 8, 9} { // so the end stands at each place of a byte
		b, _ := Write(lits(strings.Repeat("a", n)))
		checkRead(t, b, n)
		for _, behind := range [][]byte{{0}, {1}, {0, 0, 0}, {128}} {
			if l, e := Read(append(slices.Clone(b), behind...), n); e != api.ErrForm || l != nil {
				t.Errorf("%d bytes, behind them %x: %v, error %d", n, behind, l, e)
			}
		}
		l := lits(strings.Repeat("a", n))
		symLens, farLens := lengthsFor(t, l)
		used := len(tokensAsBits(l, symLens, farLens))
		for at := used; at < 8*len(b); at++ {
			c := slices.Clone(b)
			c[at/8] |= 128 >> (at % 8)
			if l, e := Read(c, n); e != api.ErrForm || l != nil {
				t.Errorf("%d bytes, bit %d of %d turned: %v, error %d", n, at, used, l, e)
			}
		}
	}
}

// TestReadMany: how many tokens there are is bounded by their bytes alone.
func TestReadMany(t *testing.T) {
	l := slices.Repeat(lits("a"), 40000)
	symLens, farLens := lengthsFor(t, l)
	b := bytesOf(tokensAsBits(l, symLens, farLens))
	if got, e := Read(b, 40000); e != api.OK || !slices.Equal(got, l) {
		t.Error(len(got), e)
	}
	if got, e := Read(b, 39999); e != api.ErrLimit || got != nil {
		t.Error(len(got), e)
	}
}

// TestReadFar: a match may reach back ahead of the first byte, as long as nobody plays it.
func TestReadFar(t *testing.T) {
	l := []api.Token{match(3, 4095)}
	b, _ := Write(l)
	if got, e := Read(b, 3); e != api.OK || !slices.Equal(got, l) {
		t.Error(got, e)
	}
}

// P11.5

func TestThereAndBack(t *testing.T) {
	check := func(l []api.Token) {
		t.Helper()
		b, e := Write(l)
		if e != api.OK {
			t.Fatalf("Write of %d tokens: error %d", len(l), e)
		}
		n := sizeOf(l)
		for _, most := range []int{n, n + 1, n + 4000, math.MaxInt} {
			if got, e := Read(b, most); e != api.OK || !slices.Equal(got, l) {
				t.Fatalf("%d tokens, most %d: %d tokens, error %d", len(l), most, len(got), e)
			}
		}
		if n == 0 {
			return
		}
		if got, e := Read(b, n-1); e != api.ErrLimit || got != nil {
			t.Fatalf("%d tokens, most %d: %d tokens, error %d", len(l), n-1, len(got), e)
		}
	}
	for _, l := range rows() {
		check(l)
	}
	r := chance(4)
	for range 20 {
		check(chanceTokens(r, r.Intn(32769)))
	}
	check(slices.Repeat([]api.Token{match(257, 4095)}, 32768))
	b := make([]byte, 32768)
	for _, few := range []int{1, 2, 20, 256} {
		for i := range b {
			b[i] = byte(r.Intn(few))
		}
		check(lz.Find(b))
	}
}

// What holds everywhere

// TestMemory: what is handed in stays, its spare room, too; answers are apart.
func TestMemory(t *testing.T) {
	l := append(lits("abcab"), match(10, 3), lit('x'), match(4, 2))
	roomy := append(slices.Clone(l), make([]api.Token, 40)...)
	for i := range 40 {
		roomy[len(l)+i] = match(9, 9)
	}
	before := slices.Clone(roomy)
	syms, fars, _ := Count(roomy[:len(l)]...)
	b, e := Write(roomy[:len(l)])
	again, _ := Write(roomy[:len(l)])
	if e != api.OK || !slices.Equal(roomy, before) || !bytes.Equal(b, again) {
		t.Error("Write has changed its tokens", e)
	}
	clear(again[:cap(again)])
	clear(syms)
	if wantSyms, wantFars, _ := Count(l...); !slices.Equal(fars, wantFars) || slices.Equal(syms, wantSyms) {
		t.Error("counts hang together")
	}
	full := append(slices.Clone(b), 1, 2, 3)
	first, e := Read(full[:len(b)], sizeOf(l))
	second, _ := Read(full[:len(b)], sizeOf(l))
	if e != api.OK || !bytes.Equal(full, append(slices.Clone(b), 1, 2, 3)) {
		t.Error("Read has changed its bytes", e)
	}
	clear(second[:cap(second)])
	clear(full)
	if !slices.Equal(first, l) {
		t.Error("tokens hang together with bytes, or with others")
	}
}
