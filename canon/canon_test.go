package canon

import (
	"bytes"
	"cmp"
	"math"
	"slices"
	"strings"
	"testing"

	"firkin/api"
	"firkin/bits"
)

// dice tells numbers that look like chance, the same in each run.
type dice uint64

func (d *dice) below(n int) int {
	*d = *d*6364136223846793005 + 1442695040888963407
	return int(uint64(*d) >> 33 % uint64(n))
}

// digits tells a number, as n bits, as text.
func digits(x uint64, n int) string {
	var s strings.Builder
	for i := n - 1; i >= 0; i-- {
		s.WriteByte('0' + byte(x>>i&1))
	}
	return s.String()
}

// digitsOf tells the bits of bytes as text.
func digitsOf(b []byte) string {
	var s strings.Builder
	for _, x := range b {
		s.WriteString(digits(uint64(x), 8))
	}
	return s.String()
}

// bytesOf tells bits, as text, as bytes; bits 0 fill the last one up.
func bytesOf(s string) []byte {
	var w bits.Writer
	for _, c := range s {
		w.Put(uint64(c-'0'), 1)
	}
	return w.Bytes()
}

// readerOf tells a reader of just these bits, which are told as text.
func readerOf(s string) *bits.Reader {
	ahead := (8 - len(s)%8) % 8
	r := bits.NewReader(bytesOf(strings.Repeat("1", ahead) + s))
	r.Skip(ahead)
	return r
}

// plainRight tells whether lengths are right, as the chapter's words tell it.
func plainRight(lens []uint8) bool {
	have, weight := 0, 0
	for _, x := range lens {
		if x > 15 {
			return false
		}
		if x > 0 {
			have++
			weight += 32768 / (1 << x)
		}
	}
	if len(lens) > 300 {
		return false
	}
	return have == 0 || have == 1 && slices.Contains(lens, 1) || weight == 32768
}

// plainWords tells the words as texts of bits, as the chapter's words tell them.
func plainWords(lens []uint8) []string {
	var order []int
	for symbol, x := range lens {
		if x > 0 {
			order = append(order, symbol)
		}
	}
	slices.SortFunc(order, func(a, b int) int {
		return cmp.Or(cmp.Compare(lens[a], lens[b]), cmp.Compare(a, b))
	})
	words := make([]string, len(lens))
	ahead := ""
	for i, symbol := range order {
		if i > 0 {
			// One more: the last bit 0 becomes 1, those behind it 0.
			at := strings.LastIndexByte(ahead, '0')
			ahead = ahead[:at] + "1" + strings.Repeat("0", len(ahead)-at-1)
		}
		ahead += strings.Repeat("0", int(lens[symbol])-len(ahead))
		words[symbol] = ahead
	}
	return words
}

// plainBits tells lengths as bits, as the chapter's words tell them.
func plainBits(lens []uint8) string {
	s := ""
	for i := 0; i < len(lens); {
		if lens[i] > 0 {
			s += digits(uint64(lens[i]), 4)
			i++
			continue
		}
		row := 0
		for i < len(lens) && lens[i] == 0 && row < 64 {
			i++
			row++
		}
		s += "0000" + digits(uint64(row-1), 6)
	}
	return s
}

// plainRead reads lengths of bits, as the chapter's words tell it; beside them, how many bits it takes.
func plainRead(s string, n int) ([]uint8, int, api.Errno) {
	if n < 0 || n > 300 {
		return nil, 0, api.ErrArg
	}
	all := len(s)
	take := func(k int) (int, bool) {
		if len(s) < k {
			return 0, false
		}
		x := 0
		for _, c := range s[:k] {
			x = 2*x + int(c-'0')
		}
		s = s[k:]
		return x, true
	}
	lens, ahead := []uint8{}, 64
	for len(lens) < n {
		x, there := take(4)
		if !there {
			return nil, 0, api.ErrShort
		}
		if x > 0 {
			lens, ahead = append(lens, uint8(x)), 64
			continue
		}
		row, there := take(6)
		if !there {
			return nil, 0, api.ErrShort
		}
		row++
		if len(lens)+row > n || ahead < 64 {
			return nil, 0, api.ErrCode
		}
		lens, ahead = append(lens, make([]uint8, row)...), row
	}
	if !plainRight(lens) {
		return nil, 0, api.ErrCode
	}
	return lens, all - len(s), api.OK
}

// split tells right lengths of so many words, 2 or more: of two words of a bit, words are made longer by a bit each way.
func split(d *dice, words int) []uint8 {
	lens := []uint8{1, 1}
	for len(lens) < words {
		i := d.below(len(lens))
		if lens[i] < 15 {
			lens[i]++
			lens = append(lens, lens[i])
		}
	}
	return lens
}

// deep tells right lengths 1, 2 and so on, the last one twice.
func deep(longest int) []uint8 {
	var lens []uint8
	for x := range longest {
		lens = append(lens, uint8(x+1))
	}
	return append(lens, uint8(longest))
}

// spread lays lengths among n symbols, in another order; the others have none.
func spread(d *dice, lens []uint8, n int) []uint8 {
	out := append(slices.Clone(lens), make([]uint8, n-len(lens))...)
	for i := range out {
		j := i + d.below(n-i)
		out[i], out[j] = out[j], out[i]
	}
	return out
}

// gap tells lengths of one symbol, n without one, and another symbol.
func gap(n int) []uint8 {
	return slices.Concat([]uint8{1}, make([]uint8, n), []uint8{1})
}

// rights tells right lengths: the edges of what may be, and ordinary ones.
func rights() [][]uint8 {
	out := [][]uint8{
		nil, {}, {0}, {0, 0}, {1}, {0, 1}, {1, 0}, {0, 1, 0}, {1, 1}, {1, 0, 1}, {1, 3, 3, 2}, {3, 2, 3, 1}, {2, 2, 2, 2}, {2, 0, 2, 2, 0, 0, 2}, {1, 2, 2}, {2, 2, 1},
		slices.Repeat([]uint8{8}, 256), slices.Repeat([]uint8{7, 0}, 128),
		append(slices.Repeat([]uint8{8}, 212), slices.Repeat([]uint8{9}, 88)...),
		append(slices.Repeat([]uint8{9}, 88), slices.Repeat([]uint8{8}, 212)...),
	}
	for n := 2; n <= 15; n++ {
		back := deep(n)
		slices.Reverse(back)
		out = append(out, deep(n), back)
	}
	for _, n := range []int{1, 2, 62, 63, 64, 65, 66, 127, 128, 129, 191, 192, 193, 255, 256, 257, 298, 299} {
		none := make([]uint8, n)
		out = append(out, none, append(none[:n:n], 1), append([]uint8{1}, none...))
		if n <= 298 {
			out = append(out, gap(n))
		}
	}
	out = append(out, make([]uint8, 300))
	d := dice(8)
	for _, words := range []int{2, 3, 5, 17, 100, 255, 256, 257, 265, 300} {
		for range 8 {
			lens := split(&d, words)
			out = append(out, lens)
			for _, n := range []int{words, words + 1, words + 20, 299, 300} {
				if n >= words && n <= 300 {
					out = append(out, spread(&d, lens, n))
				}
			}
		}
	}
	return out
}

// wrongs tells lengths that aren't right.
func wrongs() [][]uint8 {
	out := [][]uint8{
		{2}, {15}, {0, 2}, {2, 0, 0}, {1, 2}, {2, 2}, {2, 2, 2}, {1, 3, 3}, {1, 1, 1}, {1, 1, 15}, {1, 2, 2, 2}, {2, 2, 2, 2, 15}, {15, 15}, {1, 15}, {15, 2, 2, 2, 2},
		// Weights that are 2^15 beyond 2^16, or 2^17.
		slices.Repeat([]uint8{1}, 6), slices.Repeat([]uint8{1}, 10), slices.Repeat([]uint8{2}, 12), slices.Repeat([]uint8{1}, 300),
		slices.Repeat([]uint8{15}, 300), slices.Repeat([]uint8{8}, 255), slices.Repeat([]uint8{8}, 257), deep(15)[:15], append(deep(15), 15), append(deep(14)[:14], 15),
		// More than 300, which would be right but for that.
		make([]uint8, 301), make([]uint8, 556), append(make([]uint8, 300), 1), append([]uint8{1, 1}, make([]uint8, 299)...), slices.Repeat([]uint8{9}, 512), make([]uint8, 65536),
	}
	for x := 16; x < 256; x++ {
		at := uint8(x)
		out = append(out, []uint8{at}, []uint8{0, at}, []uint8{1, at}, []uint8{1, 1, at}, []uint8{at, 1, 1}, []uint8{at, at})
	}
	d := dice(9)
	for _, words := range []int{2, 3, 9, 60, 299} {
		for range 10 {
			lens := split(&d, words)
			i := d.below(words)
			longer, gone, more := slices.Clone(lens), slices.Clone(lens), slices.Clone(lens)
			longer[i]++
			gone[i] = 0
			more = append(more, lens[i])
			out = append(out, longer, more)
			if words > 2 {
				out = append(out, gone)
			}
		}
	}
	return out
}

// forAll calls for all lengths of up to n symbols, none above a bound.
func forAll(n, bound int, call func(lens []uint8)) {
	all := 1
	for k := range n + 1 {
		for x := range all {
			lens := make([]uint8, k)
			for i := range lens {
				lens[i], x = uint8(x%(bound+1)), x/(bound+1)
			}
			call(lens)
		}
		all *= bound + 1
	}
}

// P8.1

func TestCheck(t *testing.T) {
	for _, lens := range rights() {
		if e := Check(lens); e != api.OK || !plainRight(lens) {
			t.Errorf("%d: error %d", lens, e)
		}
	}
	for _, lens := range wrongs() {
		if e := Check(lens); e != api.ErrCode || plainRight(lens) {
			t.Errorf("%d: error %d", lens, e)
		}
	}
}

func TestCheckOfAllFew(t *testing.T) {
	for _, c := range [][2]int{{7, 4}, {3, 17}, {2, 255}} {
		forAll(c[0], c[1], func(lens []uint8) {
			want := api.ErrCode
			if plainRight(lens) {
				want = api.OK
			}
			if e := Check(lens); e != want {
				t.Errorf("%d: error %d, not %d", lens, e, want)
			}
		})
	}
}

// P8.2

// codesOf tells the words of right lengths; it fails, if they are refused.
func codesOf(t *testing.T, lens []uint8) []uint16 {
	t.Helper()
	codes, e := Codes(lens)
	if e != api.OK || len(codes) != len(lens) {
		t.Fatalf("%d: %d words, error %d", lens, len(codes), e)
	}
	return codes
}

// checkCodes holds the words of right lengths against the chapter's words.
func checkCodes(t *testing.T, lens []uint8) {
	t.Helper()
	codes := codesOf(t, lens)
	for symbol, want := range plainWords(lens) {
		if got := digits(uint64(codes[symbol]), int(lens[symbol])); got != want || codes[symbol]>>lens[symbol] != 0 {
			t.Fatalf("%d: the word %d of symbol %d is %q, not %q", lens, codes[symbol], symbol, got, want)
		}
	}
}

func TestCodesOfTheExamples(t *testing.T) {
	for _, c := range []struct {
		lens []uint8
		want []uint16
	}{
		{nil, nil}, {[]uint8{0, 0}, []uint16{0, 0}}, {[]uint8{1, 3, 3, 2}, []uint16{0, 6, 7, 2}}, {[]uint8{0, 1}, []uint16{0, 0}}, {[]uint8{1, 1}, []uint16{0, 1}},
		{[]uint8{3, 0, 2, 3, 1}, []uint16{6, 0, 2, 7, 0}}, {[]uint8{2, 2, 2, 2}, []uint16{0, 1, 2, 3}},
		{deep(15), []uint16{0, 2, 6, 14, 30, 62, 126, 254, 510, 1022, 2046, 4094, 8190, 16382, 32766, 32767}},
	} {
		if got := codesOf(t, c.lens); !slices.Equal(got, c.want) {
			t.Errorf("%d: %d, not %d", c.lens, got, c.want)
		}
	}
}

func TestCodesAreThoseOfTheWords(t *testing.T) {
	for _, lens := range rights() {
		checkCodes(t, lens)
	}
	forAll(7, 4, func(lens []uint8) {
		if plainRight(lens) {
			checkCodes(t, lens)
		}
	})
}

func TestCodesOfWrongLengths(t *testing.T) {
	check := func(lens []uint8) {
		if codes, e := Codes(lens); len(codes) != 0 || e != api.ErrCode {
			t.Errorf("%d: %d, error %d", lens, codes, e)
		}
	}
	for _, lens := range wrongs() {
		check(lens)
	}
	forAll(5, 4, func(lens []uint8) {
		if !plainRight(lens) {
			check(lens)
		}
	})
}

// P8.3

// written tells a writer that has some bits already, and these.
func written(ahead int) (*bits.Writer, string) {
	w := new(bits.Writer)
	s := strings.Repeat("101", ahead)[:ahead]
	for _, c := range s {
		w.Put(uint64(c-'0'), 1)
	}
	return w, s
}

// checkWritten holds what a writer has against bits.
func checkWritten(t *testing.T, w *bits.Writer, want string) {
	t.Helper()
	if w.Len() != len(want) || !bytes.Equal(w.Bytes(), bytesOf(want)) {
		t.Fatalf("%d bits, %x, not %s", w.Len(), w.Bytes(), want)
	}
}

func TestWriteOfTheExamples(t *testing.T) {
	for _, c := range []struct {
		lens []uint8
		want string
	}{
		{nil, ""}, {[]uint8{1, 3, 3, 2}, "0001001100110010"}, {[]uint8{0, 1}, "00000000000001"}, {[]uint8{0}, "0000000000"},
		{gap(64), "0001" + "0000111111" + "0001"}, {gap(65), "0001" + "0000111111" + "0000000000" + "0001"}, {gap(63), "0001" + "0000111110" + "0001"},
		{make([]uint8, 128), "0000111111" + "0000111111"}, {make([]uint8, 300), strings.Repeat("0000111111", 4) + "0000101011"},
	} {
		w, _ := written(0)
		if e := Write(w, c.lens); e != api.OK {
			t.Errorf("%d: error %d", c.lens, e)
		}
		checkWritten(t, w, c.want)
	}
}

func TestWriteStandsBehindWhatIsThere(t *testing.T) {
	for i, lens := range rights() {
		w, ahead := written(i % 19)
		for range 2 {
			if e := Write(w, lens); e != api.OK {
				t.Fatalf("%d: error %d", lens, e)
			}
		}
		checkWritten(t, w, ahead+plainBits(lens)+plainBits(lens))
	}
	forAll(6, 3, func(lens []uint8) {
		w, ahead := written(3)
		if e := Write(w, lens); plainRight(lens) {
			if e != api.OK {
				t.Errorf("%d: error %d", lens, e)
			}
			checkWritten(t, w, ahead+plainBits(lens))
		}
	})
}

func TestWriteOfWrongLengths(t *testing.T) {
	for i, lens := range wrongs() {
		w, ahead := written(i % 19)
		if e := Write(w, lens); e != api.ErrCode {
			t.Errorf("%d: error %d", lens, e)
		}
		checkWritten(t, w, ahead)
	}
}

func TestWriteToNone(t *testing.T) {
	for _, lens := range [][]uint8{nil, {1, 1}, {2}, {16}, make([]uint8, 301)} {
		if e := Write(nil, lens); e != api.ErrArg {
			t.Errorf("%d: error %d", lens, e)
		}
	}
}

// P8.4

// checkRead holds what is read of bytes against the chapter's words, what is left in the reader, too.
func checkRead(t *testing.T, b []byte, skip, n int) {
	t.Helper()
	s := digitsOf(b)[skip:]
	want, taken, wantErr := plainRead(s, n)
	r := bits.NewReader(b)
	r.Skip(skip)
	got, e := Read(r, n)
	if !slices.Equal(got, want) || e != wantErr {
		t.Fatalf("%d of %s: %d, error %d, not %d, error %d", n, s, got, e, want, wantErr)
	}
	if e == api.OK && r.Left() != len(s)-taken {
		t.Fatalf("%d of %s: %d bits are left, not %d", n, s, r.Left(), len(s)-taken)
	}
}

func TestReadOfTheExamples(t *testing.T) {
	for _, c := range []struct {
		bits string
		n    int
		want []uint8
		e    api.Errno
	}{
		{"0001001100110010", 4, []uint8{1, 3, 3, 2}, api.OK}, {"00000000000001", 2, []uint8{0, 1}, api.OK}, {"000100010001", 3, nil, api.ErrCode},
		{"", 0, nil, api.OK}, {"0000000000", 1, []uint8{0}, api.OK}, {"0001", 1, []uint8{1}, api.OK}, {"1111", 1, nil, api.ErrCode},
		// Rows that are as long as symbols are left, and longer.
		{"0000000010", 3, []uint8{0, 0, 0}, api.OK}, {"0000000010", 2, nil, api.ErrCode}, {"0001" + "0000000001", 3, []uint8{1, 0, 0}, api.OK}, {"0001" + "0000000001", 2, nil, api.ErrCode},
		{"0000111111", 64, make([]uint8, 64), api.OK}, {"0000111111", 63, nil, api.ErrCode}, {strings.Repeat("0000111111", 4) + "0000101011", 300, make([]uint8, 300), api.OK},
		{strings.Repeat("0000111111", 5), 300, nil, api.ErrCode},
		// Rows behind rows.
		{"0000111111" + "0000000000", 65, make([]uint8, 65), api.OK}, {"0000111111" + "0000111111" + "0001", 129, append(make([]uint8, 128), 1), api.OK},
		{"0000111110" + "0000000000", 64, nil, api.ErrCode}, {"0000111110" + "0000111111", 127, nil, api.ErrCode}, {"0000000000" + "0000000000", 2, nil, api.ErrCode},
		{"0000000000" + "0001" + "0000000000" + "0001", 4, []uint8{0, 1, 0, 1}, api.OK},
		{"0000111111" + "0000000000" + "0000000000", 66, nil, api.ErrCode}, {"0000000000" + "0000111111", 65, nil, api.ErrCode},
	} {
		r := bits.NewReader(bytesOf(c.bits))
		if got, e := Read(r, c.n); !slices.Equal(got, c.want) || e != c.e {
			t.Errorf("%d of %s: %d, error %d, not %d, error %d", c.n, c.bits, got, e, c.want, c.e)
		}
	}
}

func TestReadOfAllShortBits(t *testing.T) {
	for n := range 7 {
		checkRead(t, nil, 0, n)
		for x := range 1 << 16 {
			checkRead(t, []byte{byte(x >> 8), byte(x)}, 0, n)
			checkRead(t, []byte{byte(x >> 8), byte(x)}, 5, n)
		}
	}
}

// Items of any kind, one behind the other, of which many are near to what may be.
func TestReadOfItems(t *testing.T) {
	d := dice(4)
	ok := 0
	for range 60000 {
		s, n := "", 0
		for range d.below(8) {
			switch row := []int{1, 2, 62, 63, 64, 64, 64}[d.below(7)]; d.below(3) {
			case 0:
				s += "0000" + digits(uint64(row-1), 6)
				n += row
			default:
				s += digits(uint64(1+d.below(3)), 4)
				n++
			}
		}
		skip := d.below(9)
		b := bytesOf(strings.Repeat("1", skip) + s)
		for _, k := range []int{n - 1, n, n + 1} {
			checkRead(t, b, skip, k)
		}
		if _, _, e := plainRead(s, n); e == api.OK {
			ok++
		}
	}
	if ok < 1000 {
		t.Error("few of these are right:", ok)
	}
}

func TestReadOfWhatEndsTooSoon(t *testing.T) {
	for _, lens := range [][]uint8{{1, 3, 3, 2}, {0, 0, 1}, gap(70), {0, 1, 0, 1}, {1, 1, 1, 1}, {15, 15, 15}, slices.Repeat([]uint8{1}, 300), make([]uint8, 300)} {
		s := plainBits(lens)
		for cut := range s {
			if got, e := Read(readerOf(s[:cut]), len(lens)); len(got) != 0 || e != api.ErrShort {
				t.Errorf("%d of the %d bits of %d: %d, error %d", cut, len(s), lens, got, e)
			}
		}
	}
	// The bits of a row that may not be there are asked for first.
	for cut := range 10 {
		s := "0000000000" + "0000111111"[:cut]
		if got, e := Read(readerOf(s), 4); len(got) != 0 || e != api.ErrShort {
			t.Errorf("%s: %d, error %d", s, got, e)
		}
	}
}

func TestReadOfOtherCounts(t *testing.T) {
	zeros := strings.Repeat("0000111111", 5)
	for _, n := range []int{math.MinInt, math.MinInt32, -300, -1, 301, 302, 320, 512, 65536, math.MaxInt32, math.MaxInt} {
		for _, r := range []*bits.Reader{nil, bits.NewReader(nil), bits.NewReader(bytesOf(zeros))} {
			left := r.Left()
			if got, e := Read(r, n); len(got) != 0 || e != api.ErrArg || r.Left() != left {
				t.Errorf("%d: %d, error %d", n, got, e)
			}
		}
	}
}

func TestReadOfNoReader(t *testing.T) {
	if got, e := Read(nil, 0); len(got) != 0 || e != api.OK {
		t.Error(got, e)
	}
	for _, n := range []int{1, 2, 300} {
		for _, r := range []*bits.Reader{nil, {}, bits.NewReader(nil)} {
			if got, e := Read(r, n); len(got) != 0 || e != api.ErrShort {
				t.Errorf("%d: %d, error %d", n, got, e)
			}
		}
	}
}

func TestReadOfWrongLengths(t *testing.T) {
	for _, lens := range wrongs() {
		if len(lens) > 300 || slices.Max(lens) > 15 {
			continue
		}
		if got, e := Read(bits.NewReader(bytesOf(plainBits(lens))), len(lens)); len(got) != 0 || e != api.ErrCode {
			t.Errorf("%d: %d, error %d", lens, got, e)
		}
	}
}

// P8.5

func TestNoWordBeginsAnother(t *testing.T) {
	for _, lens := range rights() {
		codes := codesOf(t, lens)
		for a := range lens {
			for b := range lens {
				if a == b || lens[a] == 0 || lens[b] < lens[a] {
					continue
				}
				if codes[b]>>(lens[b]-lens[a]) == codes[a] {
					t.Fatalf("%d: the word of symbol %d begins that of %d", lens, a, b)
				}
			}
		}
	}
}

func TestWordsOfOneLengthFollowEachOther(t *testing.T) {
	for _, lens := range rights() {
		codes := codesOf(t, lens)
		ahead := [16]int{}
		for i := range ahead {
			ahead[i] = -1
		}
		for symbol, x := range lens {
			if x == 0 {
				continue
			}
			if a := ahead[x]; a >= 0 && codes[symbol] != codes[a]+1 {
				t.Fatalf("%d: the words of symbols %d and %d are %d and %d", lens, a, symbol, codes[a], codes[symbol])
			}
			ahead[x] = symbol
		}
	}
}

func TestShorterWordsAreBelowLonger(t *testing.T) {
	for _, lens := range rights() {
		codes := codesOf(t, lens)
		for a := range lens {
			for b := range lens {
				if lens[a] > 0 && lens[a] < lens[b] && codes[a]<<(15-lens[a]) >= codes[b]<<(15-lens[b]) {
					t.Fatalf("%d: the word of symbol %d isn't below that of %d", lens, a, b)
				}
			}
		}
	}
}

func TestWhatWasWrittenIsRead(t *testing.T) {
	check := func(lens []uint8, ahead int) {
		w, _ := written(ahead)
		Write(w, lens)
		w.Put(0x5A, 8)
		r := bits.NewReader(w.Bytes())
		r.Skip(ahead)
		got, e := Read(r, len(lens))
		if !slices.Equal(got, lens) || e != api.OK {
			t.Fatalf("%d: %d, error %d", lens, got, e)
		}
		if x, e := r.Get(8); x != 0x5A || e != api.OK {
			t.Fatalf("%d: behind them %d, error %d", lens, x, e)
		}
	}
	for i, lens := range rights() {
		check(lens, i%19)
	}
	forAll(7, 4, func(lens []uint8) {
		if plainRight(lens) {
			check(lens, len(lens))
		}
	})
}

// Memory

func TestWhatIsHandedInStays(t *testing.T) {
	for _, lens := range [][]uint8{{1, 3, 3, 2}, {0, 1}, {1, 1, 1}, {16}, gap(100), deep(15)} {
		room := append(slices.Clone(lens), 71, 0, 0, 1)
		kept := slices.Clone(room)
		handed := room[:len(lens)]
		Check(handed)
		first, _ := Codes(handed)
		want := slices.Clone(first)
		second, _ := Codes(handed)
		w, _ := written(0)
		Write(w, handed)
		bitsOfThem := w.Bytes()
		if !slices.Equal(room, kept) {
			t.Errorf("%d: what is handed in is changed", lens)
		}
		clear(room)
		for i := range second[:cap(second)] {
			second[:cap(second)][i] = 9999
		}
		if !slices.Equal(first, want) || !bytes.Equal(w.Bytes(), bitsOfThem) {
			t.Errorf("%d: memory is shared", lens)
		}
	}
}

func TestWhatIsReadIsNewMemory(t *testing.T) {
	b := bytesOf(plainBits(gap(40)))
	kept := slices.Clone(b)
	first, _ := Read(bits.NewReader(b), 42)
	second, _ := Read(bits.NewReader(b), 42)
	for i := range second[:cap(second)] {
		second[:cap(second)][i] = 99
	}
	if !slices.Equal(first, gap(40)) || !bytes.Equal(b, kept) {
		t.Error("memory is shared")
	}
}

func TestAnswersHangOnNothingElse(t *testing.T) {
	for _, lens := range rights() {
		roomy := append(make([]uint8, 0, len(lens)+50), lens...)
		a, b := codesOf(t, lens), codesOf(t, roomy)
		if !slices.Equal(a, b) {
			t.Errorf("%d: %d and %d", lens, a, b)
		}
	}
}
