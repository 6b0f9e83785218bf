package ef

import (
	"bytes"
	"math"
	"math/rand"
	"slices"
	"strconv"
	"strings"
	"testing"

	"firkin/api"
)

// chance tells numbers that look like chance, the same in each run.
func chance(seed int64) *rand.Rand { return rand.New(rand.NewSource(seed)) }

// digits tells a number, as n bits, as text.
func digits(x, n int) string {
	if n == 0 {
		return ""
	}
	s := strconv.FormatInt(int64(x), 2)
	return strings.Repeat("0", n-len(s)) + s
}

// bytesOf tells bits, as text, as bytes; bits 0 fill the last one up.
func bytesOf(s string) []byte {
	b := make([]byte, (len(s)+7)/8)
	for i := range s {
		b[i/8] |= (s[i] - '0') << (7 - i%8)
	}
	return b
}

// digitsOf tells the bits of bytes as text.
func digitsOf(b []byte) string {
	var s strings.Builder
	for _, x := range b {
		s.WriteString(digits(int(x), 8))
	}
	return s.String()
}

// plainNum tells a number's bytes, as chapter 3 tells them.
func plainNum(x int) []byte {
	var b []byte
	for x > 127 {
		b = append(b, byte(x%128)+128)
		x /= 128
	}
	return append(b, byte(x))
}

// width tells how many low bits a row of n numbers has, as the chapter's words tell it.
func width(bound, n int) int {
	for w := range 64 {
		if two := math.Pow(2, float64(w)); two <= float64(bound/n) && 2*two > float64(bound/n) {
			return w
		}
	}
	panic("a row isn't of more numbers than its bound")
}

// of tells the row of these bits behind how many numbers it has.
func of(n int, s string) []byte { return append(plainNum(n), bytesOf(s)...) }

// plainWrite tells a row as bytes, as the chapter's words tell it.
func plainWrite(bound int, ids []int) []byte {
	if len(ids) == 0 {
		return of(0, "")
	}
	w := width(bound, len(ids))
	two := int(math.Pow(2, float64(w)))
	var low, unary strings.Builder
	ahead := 0
	for _, id := range ids {
		low.WriteString(digits(id%two, w))
		unary.WriteString(strings.Repeat("0", id/two-ahead) + "1")
		ahead = id / two
	}
	return of(len(ids), low.String()+unary.String())
}

// plainCount tells the number that bytes begin with, and how many bytes it has, as chapter 3 tells it.
func plainCount(most int, b []byte) (int, int, api.Errno) {
	for i := range b {
		switch {
		case i == 9 && b[i] != 1, i > 0 && b[i] == 0:
			return 0, 0, api.ErrForm
		case b[i] >= 128:
			continue
		case i > 2:
			return 0, 0, api.ErrLimit
		}
		x := 0
		for k := i; k >= 0; k-- {
			x = 128*x + int(b[k])%128
		}
		if x > most {
			return 0, 0, api.ErrLimit
		}
		return x, i + 1, api.OK
	}
	return 0, 0, api.ErrShort
}

// plainRead tells the row that bytes begin with, and how many they are, as the chapter's words tell it.
func plainRead(bound int, b []byte) ([]int, int, api.Errno) {
	if bound < 0 || bound > 20000 {
		return nil, 0, api.ErrArg
	}
	n, at, e := plainCount(bound, b)
	if e != api.OK || n == 0 {
		return nil, at, e
	}
	w, s := width(bound, n), digitsOf(b[at:])
	if len(s) < n*w {
		return nil, 0, api.ErrShort
	}
	unary := s[n*w:]
	var ids []int
	high, ahead := 0, -1
	for i := range n {
		zeros := strings.Index(unary, "1")
		if zeros < 0 {
			return nil, 0, api.ErrShort
		}
		unary = unary[zeros+1:]
		high += zeros
		id, _ := strconv.ParseInt("0"+s[i*w:(i+1)*w], 2, 64)
		id += int64(high) << w
		if int(id) <= ahead {
			return nil, 0, api.ErrForm
		}
		if int(id) >= bound {
			return nil, 0, api.ErrRange
		}
		ids, ahead = append(ids, int(id)), int(id)
	}
	rest := len(unary) % 8
	if strings.Contains(unary[:rest], "1") {
		return nil, 0, api.ErrForm
	}
	return ids, len(b) - len(unary)/8, api.OK
}

// checkRead holds Read against the plain one, and tells the error; what is read is what is written.
func checkRead(t testing.TB, bound int, b []byte) api.Errno {
	t.Helper()
	l, n, e := Read(bound, b)
	ids, long, want := plainRead(bound, b)
	if e != want || n != long || (l == nil) != (e != api.OK) || !slices.Equal(l.All(), ids) {
		t.Fatalf("below %d, % x: %d, %d, error %d, not %d, %d, error %d", bound, b[:min(len(b), 40)], l.All(), n, e, ids, long, want)
	}
	if e != api.OK {
		return e
	}
	if again, e := Write(bound, ids...); e != api.OK || !bytes.Equal(again, b[:n]) {
		t.Fatalf("below %d, % x is read, but % x written, error %d", bound, b[:n], again, e)
	}
	return api.OK
}

// sample is a row below a bound.
type sample struct {
	bound int
	ids   []int
}

// span tells the numbers from one on, below a bound, by steps.
func span(from, bound, step int) []int {
	var ids []int
	for x := from; x < bound; x += step {
		ids = append(ids, x)
	}
	return ids
}

// someOf tells n numbers below a bound.
func someOf(r *rand.Rand, bound, n int) []int {
	ids := r.Perm(bound)[:n]
	slices.Sort(ids)
	return ids
}

// smallRows tells all rows below all bounds up to a most.
func smallRows(most int) []sample {
	var out []sample
	for bound := range most + 1 {
		for which := range 1 << bound {
			var ids []int
			for x := range bound {
				if which>>x&1 == 1 {
					ids = append(ids, x)
				}
			}
			out = append(out, sample{bound, ids})
		}
	}
	return out
}

// edgeRows tells rows at the edges: none, one, the first ones, the last ones and all numbers below bounds around powers of two, and around where the low bits get more or fewer.
func edgeRows() []sample {
	out := []sample{{20000, span(0, 20000, 2)}, {20000, span(1, 20000, 2)}, {20000, span(0, 20000, 7)}, {20000, span(19999, 20000, 1)}, {20000, []int{0, 19999}}, {20000, append(span(0, 9999, 1), 19999)}}
	for _, bound := range []int{1, 2, 3, 4, 7, 8, 9, 15, 16, 17, 127, 128, 129, 255, 256, 1000, 1023, 1024, 8191, 8192, 8193, 16383, 16384, 16385, 19999, 20000} {
		for _, n := range []int{0, 1, 2, 3, 4, 5, 127, 128, bound / 8, bound/8 + 1, bound/4 - 1, bound / 4, bound/4 + 1, bound / 3, bound/2 - 1, bound / 2, bound/2 + 1, bound - 1, bound} {
			if n >= 0 && n <= bound {
				out = append(out, sample{bound, span(0, n, 1)}, sample{bound, span(bound-n, bound, 1)})
			}
		}
	}
	return out
}

// rows tells rows at the edges, and of chance.
func rows() []sample {
	out := edgeRows()
	r := chance(1)
	for range 400 {
		bound := 1 + r.Intn(1<<(1+r.Intn(14)))
		out = append(out, sample{bound, someOf(r, bound, r.Intn(bound+1))}, sample{bound, someOf(r, bound, r.Intn(min(bound, 9)+1))})
	}
	return out
}

// wrongBounds are bounds that may not be.
var wrongBounds = []int{math.MinInt, -20000, -2, -1, 20001, 20002, 1 << 15, 1 << 32, math.MaxInt}

// P13.1

func TestWriteExample(t *testing.T) {
	if b, e := Write(8, 2, 3, 5, 7); e != api.OK || !bytes.Equal(b, []byte{0x04, 0x76, 0xA0}) {
		t.Errorf("% x, error %d", b, e)
	}
}

func TestWriteByHand(t *testing.T) {
	for _, x := range []struct {
		bound int
		ids   []int
		b     []byte
	}{
		{0, nil, of(0, "")},
		{20000, nil, of(0, "")},
		{1, []int{0}, of(1, "1")},
		{2, []int{0}, of(1, "0"+"1")},
		{2, []int{1}, of(1, "1"+"1")},
		{3, []int{2}, of(1, "0"+"01")},
		{4, []int{3}, of(1, "11"+"1")},
		{3, []int{0, 1, 2}, of(3, "1"+"01"+"01")},
		{5, []int{0, 1, 4}, of(3, "1"+"01"+"0001")},
		{6, []int{0, 1, 4}, of(3, "010"+"1"+"1"+"001")},
		{20000, []int{19999}, of(1, "00111000011111"+"01")},
		{20000, []int{0}, of(1, "00000000000000"+"1")},
		{20000, []int{9, 19999}, of(2, "0000000001001"+"0111000011111"+"1"+"001")},
		{20000, []int{3, 5, 7}, of(3, "000000000011"+"000000000101"+"000000000111"+"111")},
	} {
		if b, e := Write(x.bound, x.ids...); e != api.OK || !bytes.Equal(b, x.b) {
			t.Errorf("below %d, %d: % x, error %d, not % x", x.bound, x.ids, b, e, x.b)
		}
	}
}

func TestWriteRows(t *testing.T) {
	for _, x := range append(smallRows(10), rows()...) {
		if b, e := Write(x.bound, x.ids...); e != api.OK || !bytes.Equal(b, plainWrite(x.bound, x.ids)) {
			t.Fatalf("%d numbers below %d: % x, error %d", len(x.ids), x.bound, b[:min(len(b), 40)], e)
		}
	}
}

// wantRefused sees that Write tells nothing but ErrArg.
func wantRefused(t *testing.T, bound int, ids ...int) {
	t.Helper()
	if b, e := Write(bound, ids...); e != api.ErrArg || len(b) != 0 {
		t.Errorf("below %d, %d: % x, error %d", bound, ids[:min(len(ids), 10)], b, e)
	}
}

func TestWriteRefuses(t *testing.T) {
	for _, bound := range wrongBounds {
		wantRefused(t, bound)
		wantRefused(t, bound, 0)
		wantRefused(t, bound, 1, 2, 3)
	}
	for _, x := range [][]int{
		{8}, {9}, {-1}, {3, 3}, {3, 2}, {0, 0}, {7, 0}, {-1, 0}, {-2, -1}, {-1, 8}, {0, 1, 8}, {0, 1, 2, 3, 4, 5, 6, 7, 8}, {1, 2, 2, 3}, {0, 7, 6}, {8, 1}, {2, -1, 3},
		{math.MinInt}, {math.MaxInt}, {math.MinInt, 3}, {3, math.MaxInt}, {3, math.MinInt}, {1 << 32}, {3, 1<<32 + 4},
	} {
		wantRefused(t, 8, x...)
	}
	wantRefused(t, 0, 0)
	wantRefused(t, 0, -1)
	wantRefused(t, 1, 0, 0)
	wantRefused(t, 20000, 20000)
	wantRefused(t, 20000, append(span(0, 20000, 1), 20000)...)
	wantRefused(t, 20000, append(span(0, 20000, 1), 19999)...)
	wantRefused(t, 20000, slices.Repeat([]int{5}, 40000)...)
}

// TestWriteRefusesChance: each number that is put in place of another one, so that it is no row any more, is refused.
func TestWriteRefusesChance(t *testing.T) {
	r := chance(2)
	for _, x := range rows() {
		if len(x.ids) < 2 {
			continue
		}
		ids := slices.Clone(x.ids)
		i := 1 + r.Intn(len(ids)-1)
		for _, wrong := range []int{ids[i-1], ids[i-1] - 1, ids[0], -1, x.bound, x.bound + 1} {
			old := ids[i]
			ids[i] = wrong
			wantRefused(t, x.bound, ids...)
			ids[i] = old
		}
	}
}

// P13.2

func TestReadExample(t *testing.T) {
	l, n, e := Read(8, []byte{0x04, 0x76, 0xA0})
	if e != api.OK || n != 3 || !slices.Equal(l.All(), []int{2, 3, 5, 7}) {
		t.Errorf("%d, %d, error %d", l.All(), n, e)
	}
}

func TestReadEmpty(t *testing.T) {
	for _, bound := range []int{0, 1, 8, 20000} {
		for _, behind := range [][]byte{nil, {0}, {255, 255}} {
			l, n, e := Read(bound, append([]byte{0}, behind...))
			if e != api.OK || n != 1 || l == nil || l.Len() != 0 || len(l.All()) != 0 {
				t.Errorf("below %d: %d, %d, error %d", bound, l.All(), n, e)
			}
		}
	}
}

func TestReadRefuses(t *testing.T) {
	far := bytes.Repeat([]byte{0}, 5000)
	for _, x := range []struct {
		what  string
		bound int
		b     []byte
		e     api.Errno
	}{
		{"a bound below 0, and nothing", -1, nil, api.ErrArg},
		{"a bound above the most, and no number", 20001, []byte{128, 0}, api.ErrArg},
		{"nothing", 8, nil, api.ErrShort},
		{"nothing below nothing", 0, nil, api.ErrShort},
		{"a count that goes on", 8, []byte{0x84}, api.ErrShort},
		{"a great count that goes on", 8, bytes.Repeat([]byte{255}, 9), api.ErrShort},
		{"a count of two bytes that is 4", 8, []byte{0x84, 0, 0x76, 0xA0}, api.ErrForm},
		{"a count whose tenth byte is 2", 8, append(bytes.Repeat([]byte{255}, 9), 2), api.ErrForm},
		{"a count whose tenth byte goes on", 8, bytes.Repeat([]byte{255}, 11), api.ErrForm},
		{"the greatest count", 8, append(bytes.Repeat([]byte{255}, 9), 1), api.ErrLimit},
		{"a count of 2^63", 20000, append(bytes.Repeat([]byte{128}, 9), 1), api.ErrLimit},
		{"a count that is 4 in its lowest bits", 20000, append([]byte{0x84}, append(bytes.Repeat([]byte{128}, 8), 1)...), api.ErrLimit},
		{"one more than the bound", 8, []byte{9}, api.ErrLimit},
		{"one below nothing", 0, []byte{1, 0x80}, api.ErrLimit},
		{"one more than the greatest bound", 20000, plainNum(20001), api.ErrLimit},
		{"as many as the bound, and nothing else", 8, []byte{8}, api.ErrShort},
		{"no low bits", 8, []byte{4}, api.ErrShort},
		{"not all low bits", 20000, []byte{1, 255}, api.ErrShort},
		{"low bits that aren't rising, and not all", 20000, of(2, "1111111111111"+"000"), api.ErrShort},
		{"low bits alone", 256, []byte{1, 255}, api.ErrShort},
		{"unary bits without an end", 8, []byte{4, 0x70}, api.ErrShort},
		{"the last one's without an end", 8, of(4, "0111"+"01101"), api.ErrShort},
		{"the second one's without an end, the first one beyond", 2, of(2, "00100"), api.ErrRange},
		{"the second one's without an end, and far behind, too", 8, append(of(2, "0000"+"1"), far...), api.ErrShort},
		{"the first one's without an end, and far behind, too", 20000, append([]byte{1, 0, 0}, far...), api.ErrShort},
		{"the first one's with an end far behind", 20000, append(append([]byte{1, 0, 0}, far...), 1), api.ErrRange},
		{"the last one's with an end far behind", 8, append(append(of(2, "0011"+"1"), far...), 0x80), api.ErrRange},
		{"the first one's far behind, the second one without", 8, append(append(of(2, "0011"), far...), 0x01), api.ErrRange},
		{"the second one as the first", 8, []byte{2, 0x0C}, api.ErrForm},
		{"the second one below the first", 8, of(2, "1001"+"11"), api.ErrForm},
		{"the second one below, and no end behind", 8, of(3, "100"+"11"), api.ErrForm},
		{"the third one below, the fourth beyond", 8, of(4, "0101"+"1"+"1"+"1"+"00001"), api.ErrForm},
		{"the first one at the bound", 3, of(1, "1"+"01"), api.ErrRange},
		{"the first one at the bound, of no low bits", 1, of(1, "01"), api.ErrRange},
		{"the first one beyond", 2, []byte{1, 0x20}, api.ErrRange},
		{"the first one beyond, the second one as it", 6, of(2, "00"+"0001"+"1"), api.ErrRange},
		{"the last one at the bound", 20000, of(1, digits(20000-16384, 14)+"01"), api.ErrRange},
		{"the last one at the bound, with a bit behind", 20000, append(plainNum(20000), bytesOf("01"+strings.Repeat("01", 19999)+"1")...), api.ErrRange},
		{"a bit 1 behind", 8, []byte{4, 0x76, 0xA1}, api.ErrForm},
		{"a bit 1 just behind", 8, of(4, "0111"+"01101"+"01"+"1"), api.ErrForm},
		{"a bit 1 behind that would be a fifth number", 8, of(4, "0111"+"01101"+"01"+"001"), api.ErrForm},
	} {
		l, n, e := Read(x.bound, x.b)
		if e != x.e || n != 0 || l != nil {
			t.Errorf("%s: %d, %d, error %d, not %d", x.what, l.All(), n, e, x.e)
		}
		checkRead(t, x.bound, x.b)
	}
}

func TestReadWrongBounds(t *testing.T) {
	for _, bound := range wrongBounds {
		for _, b := range [][]byte{nil, {0}, {1, 0x80}, {4, 0x76, 0xA0}, {128, 0}} {
			if l, n, e := Read(bound, b); e != api.ErrArg || n != 0 || l != nil {
				t.Errorf("below %d, % x: %d, %d, error %d", bound, b, l.All(), n, e)
			}
		}
	}
}

// TestReadSmall: all rows of up to two bytes, and of three that begin with few.
func TestReadSmall(t *testing.T) {
	for _, bound := range []int{0, 1, 2, 3, 5, 8, 300} {
		checkRead(t, bound, nil)
		for a := range 256 {
			checkRead(t, bound, []byte{byte(a)})
			for b := range 256 {
				checkRead(t, bound, []byte{byte(a), byte(b)})
			}
		}
	}
	for bound := range 7 {
		for a := range bound + 1 {
			for b := range 1 << 16 {
				checkRead(t, bound, []byte{byte(a), byte(b >> 8), byte(b)})
			}
		}
	}
}

// TestReadCut: of each row each cut one.
func TestReadCut(t *testing.T) {
	for _, x := range append(smallRows(8), rows()...) {
		b := plainWrite(x.bound, x.ids)
		for n := range b {
			if n > 40 && n < len(b)-3 {
				continue
			}
			if l, long, e := Read(x.bound, b[:n]); e != api.ErrShort || long != 0 || l != nil {
				t.Fatalf("%d of %d bytes: %d, error %d", n, len(b), long, e)
			}
		}
	}
}

// TestReadChance: rows whose bytes were changed, with others behind, or not; and rows read below other bounds.
func TestReadChance(t *testing.T) {
	r := chance(3)
	seen := map[api.Errno]int{}
	for range 30000 {
		bound := 1 + r.Intn(1<<(1+r.Intn(9)))
		n := r.Intn(min(bound, 40) + 1)
		b := plainWrite(bound, someOf(r, bound, n))
		for range r.Intn(4) {
			b[r.Intn(len(b))] ^= 1 << r.Intn(8)
		}
		b = append(b, make([]byte, r.Intn(4))...)
		if r.Intn(2) == 0 {
			b = append(b, byte(r.Intn(256)))
		}
		seen[checkRead(t, bound, b)]++
		seen[checkRead(t, max(0, bound+r.Intn(9)-4), b)]++
	}
	for _, e := range []api.Errno{api.OK, api.ErrShort, api.ErrForm, api.ErrLimit, api.ErrRange} {
		if seen[e] < 100 {
			t.Error("error", e, "is seldom seen:", seen)
		}
	}
}

// TestReadTurned: great rows in which a bit was turned.
func TestReadTurned(t *testing.T) {
	r := chance(4)
	for _, x := range edgeRows() {
		b := plainWrite(x.bound, x.ids)
		for range 3 {
			turned := slices.Clone(b)
			turned[r.Intn(len(b))] ^= 1 << r.Intn(8)
			checkRead(t, x.bound, turned)
		}
	}
}

// TestReadOneBehindTheOther: many rows in a row of bytes; each is read of all that stand there still.
func TestReadOneBehindTheOther(t *testing.T) {
	r := chance(5)
	var all []byte
	var want [][]int
	for len(all) < 1<<21 {
		ids := someOf(r, 20, r.Intn(6))
		for i := range ids {
			ids[i] *= 1000
		}
		want = append(want, ids)
		all = append(all, plainWrite(20000, ids)...)
	}
	for i, ids := range want {
		l, n, e := Read(20000, all)
		if e != api.OK || !slices.Equal(l.All(), ids) {
			t.Fatalf("row %d: %d, error %d, not %d", i, l.All(), e, ids)
		}
		all = all[n:]
	}
	if len(all) != 0 {
		t.Error(len(all), "bytes are left")
	}
}

// P13.3

// checkList sees that a list has just these numbers.
func checkList(t *testing.T, l *List, ids []int) {
	t.Helper()
	if l.Len() != len(ids) || !slices.Equal(l.All(), ids) {
		t.Fatalf("%d numbers, %d, not %d", l.Len(), l.All(), ids)
	}
	for i, id := range ids {
		if x, ok := l.At(i); x != id || !ok {
			t.Fatalf("At(%d) is %d, %v, not %d", i, x, ok, id)
		}
	}
	for _, i := range []int{-1, -2, -len(ids), len(ids), len(ids) + 1, 2*len(ids) + 1, 1 << 32, math.MinInt, math.MaxInt} {
		if x, ok := l.At(i); (x != 0 || ok) && (i < 0 || i >= len(ids)) {
			t.Fatalf("At(%d) is %d, %v of %d", i, x, ok, len(ids))
		}
	}
}

// checkNext sees that a list with these numbers tells the next one from x on.
func checkNext(t *testing.T, l *List, ids []int, x int) {
	t.Helper()
	at, id := 0, 0
	found := slices.IndexFunc(ids, func(id int) bool { return id >= x })
	if found >= 0 {
		at, id = found, ids[found]
	}
	if i, y, ok := l.Next(x); i != at || y != id || ok != (found >= 0) {
		t.Fatalf("Next(%d) of %d is %d, %d, %v", x, ids[:min(len(ids), 20)], i, y, ok)
	}
}

// listOf tells the list of a row.
func listOf(t *testing.T, x sample) *List {
	t.Helper()
	l, _, e := Read(x.bound, plainWrite(x.bound, x.ids))
	if e != api.OK {
		t.Fatalf("%d numbers below %d: error %d", len(x.ids), x.bound, e)
	}
	return l
}

// far are numbers that no row has.
var far = []int{math.MinInt, -1 << 32, -20000, -2, -1, 20000, 20001, 1 << 32, math.MaxInt}

func TestList(t *testing.T) {
	for _, x := range append(smallRows(9), rows()...) {
		l := listOf(t, x)
		checkList(t, l, x.ids)
		for _, y := range far {
			checkNext(t, l, x.ids, y)
		}
	}
}

func TestNext(t *testing.T) {
	for _, x := range smallRows(9) {
		l := listOf(t, x)
		for y := -2; y < x.bound+3; y++ {
			checkNext(t, l, x.ids, y)
		}
	}
	r := chance(6)
	for _, x := range rows() {
		l := listOf(t, x)
		for range 60 {
			checkNext(t, l, x.ids, r.Intn(x.bound+2))
		}
		for range min(len(x.ids), 20) {
			id := x.ids[r.Intn(len(x.ids))]
			checkNext(t, l, x.ids, id-1)
			checkNext(t, l, x.ids, id)
			checkNext(t, l, x.ids, id+1)
		}
	}
}

// P13.4

func TestNilList(t *testing.T) {
	for _, l := range []*List{nil, new(List)} {
		checkList(t, l, nil)
		for _, x := range append(far, 0, 1, 2) {
			checkNext(t, l, nil, x)
		}
		for i := range 3 {
			if x, ok := l.At(i); x != 0 || ok {
				t.Errorf("At(%d) is %d, %v", i, x, ok)
			}
		}
	}
}

// P13.5

func TestThereAndBack(t *testing.T) {
	for _, x := range append(smallRows(10), rows()...) {
		b, e := Write(x.bound, x.ids...)
		if e != api.OK {
			t.Fatalf("%d numbers below %d: error %d", len(x.ids), x.bound, e)
		}
		for _, behind := range [][]byte{nil, {0}, {255, 1, 2}, b, make([]byte, 6000)} {
			l, n, e := Read(x.bound, slices.Concat(b, behind))
			if e != api.OK || n != len(b) || !slices.Equal(l.All(), x.ids) {
				t.Fatalf("%d numbers below %d, %d bytes behind: %d numbers, %d of %d bytes, error %d", len(x.ids), x.bound, len(behind), l.Len(), n, len(b), e)
			}
		}
	}
}

// TestLong: a row has at most w + 3 bits a number, and 31 more.
func TestLong(t *testing.T) {
	for _, x := range append(smallRows(10), rows()...) {
		b, _ := Write(x.bound, x.ids...)
		most := 31
		if n := len(x.ids); n > 0 {
			most += n * (width(x.bound, n) + 3)
		}
		if 8*len(b) > most {
			t.Errorf("%d numbers below %d: %d bytes", len(x.ids), x.bound, len(b))
		}
	}
}

// What holds everywhere

// TestMemory: what is handed in stays, its spare room, too, and isn't kept; answers are apart.
func TestMemory(t *testing.T) {
	for _, x := range edgeRows() {
		roomy := slices.Concat(x.ids, []int{7, 7, 7})
		before := slices.Clone(roomy)
		b, _ := Write(x.bound, roomy[:len(x.ids)]...)
		again, _ := Write(x.bound, roomy[:len(x.ids)]...)
		if !slices.Equal(roomy, before) {
			t.Fatal("Write has changed its numbers")
		}
		clear(again[:cap(again)])
		clear(roomy)
		if !bytes.Equal(b, plainWrite(x.bound, x.ids)) {
			t.Fatal("rows hang together with numbers, or with others")
		}
		full := slices.Concat(b, []byte{1, 2, 3})
		behind := slices.Clone(full)
		l, _, _ := Read(x.bound, full[:len(b)])
		other, _, _ := Read(x.bound, full)
		if !bytes.Equal(full, behind) {
			t.Fatal("Read has changed its bytes")
		}
		clear(full)
		for _, l := range []*List{l, other, l} {
			told := l.All()
			if !slices.Equal(told, x.ids) {
				t.Fatal("lists hang together with bytes, or with what they told")
			}
			clear(told[:cap(told)])
			l.Next(3)
			l.At(1)
		}
	}
}
