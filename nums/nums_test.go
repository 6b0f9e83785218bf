package nums

import (
	"bytes"
	"math"
	"testing"

	"firkin/api"
)

// plainNum is a number's bytes as the document's words tell them, by dividing.
func plainNum(x uint64) []byte {
	if x < 128 {
		return []byte{byte(x)}
	}
	return append([]byte{byte(x%128) + 128}, plainNum(x/128)...)
}

// dice tells numbers that look like chance, the same in each run.
type dice uint64

func (d *dice) next() uint64 {
	*d = *d*6364136223846793005 + 1442695040888963407
	x := uint64(*d)
	return x ^ x>>29
}

func (d *dice) below(n int) int { return int(d.next() >> 1 % uint64(n)) }

// bytes tells n bytes, of those that count in numbers more often than others.
func (d *dice) bytes(n int) []byte {
	often := []byte{0, 1, 2, 127, 128, 129, 254, 255}
	out := make([]byte, n)
	for i := range out {
		out[i] = byte(d.next())
		if d.below(3) > 0 {
			out[i] = often[d.below(len(often))]
		}
	}
	return out
}

// numbers tells numbers of each length, those beside the edges of lengths among them.
func numbers() []uint64 {
	var out []uint64
	for x := range uint64(40000) {
		out = append(out, x)
	}
	d := dice(1)
	for i := range 64 {
		for _, by := range []uint64{1, 2, 3, 127, 128, 129} {
			out = append(out, 1<<i-by, 1<<i, 1<<i+by)
		}
		for range 20 {
			out = append(out, d.next()>>i)
		}
	}
	return append(out, math.MaxUint64)
}

// P3.1

func TestNumOfTheExamples(t *testing.T) {
	for _, c := range []struct {
		x    uint64
		want []byte
	}{
		{0, []byte{0}},
		{1, []byte{1}},
		{127, []byte{127}},
		{128, []byte{0x80, 1}},
		{300, []byte{0xAC, 2}},
		{16383, []byte{0xFF, 0x7F}},
		{16384, []byte{0x80, 0x80, 1}},
		{1 << 63, []byte{0x80, 0x80, 0x80, 0x80, 0x80, 0x80, 0x80, 0x80, 0x80, 1}},
		{1<<63 - 1, []byte{0xFF, 0xFF, 0xFF, 0xFF, 0xFF, 0xFF, 0xFF, 0xFF, 0x7F}},
		{math.MaxUint64, []byte{0xFF, 0xFF, 0xFF, 0xFF, 0xFF, 0xFF, 0xFF, 0xFF, 0xFF, 1}},
	} {
		if got := Num(c.x); !bytes.Equal(got, c.want) {
			t.Errorf("of %d: % x, not % x", c.x, got, c.want)
		}
	}
}

func TestNumIsTheNumbersBytes(t *testing.T) {
	for _, x := range numbers() {
		if got, want := Num(x), plainNum(x); !bytes.Equal(got, want) {
			t.Fatalf("of %d: % x, not % x", x, got, want)
		}
	}
}

func TestText(t *testing.T) {
	if got := Text("ab"); !bytes.Equal(got, []byte{2, 'a', 'b'}) {
		t.Errorf("% x", got)
	}
	d := dice(2)
	for _, n := range []int{0, 1, 2, 126, 127, 128, 129, 4000, 16383, 16384, 70000} {
		s := d.bytes(n)
		if got, want := Text(string(s)), append(plainNum(uint64(n)), s...); !bytes.Equal(got, want) {
			t.Errorf("of %d bytes: not its bytes", n)
		}
	}
}

func TestAll(t *testing.T) {
	for _, c := range []struct {
		parts [][]byte
		want  string
	}{
		{nil, ""},
		{[][]byte{}, ""},
		{[][]byte{nil}, ""},
		{[][]byte{nil, {}, nil}, ""},
		{[][]byte{[]byte("a")}, "a"},
		{[][]byte{[]byte("a"), nil, []byte("bc")}, "abc"},
		{[][]byte{[]byte("bc"), []byte("a"), {}}, "bca"},
		{[][]byte{nil, []byte("\x00"), []byte("\x00\xFF"), []byte("z")}, "\x00\x00\xFFz"},
	} {
		if got := All(c.parts...); string(got) != c.want {
			t.Errorf("of %q: %q, not %q", c.parts, got, c.want)
		}
	}
}

func TestAllIsNewMemory(t *testing.T) {
	room := []byte("abcdefghij")
	got := All(room[:3], room[:2])
	if string(got) != "abcab" || string(room) != "abcdefghij" {
		t.Errorf("%q, of what is now %q", got, room)
	}
	one := All(room[:3])
	one[0] = 'x'
	_ = append(one, 'y')
	if string(room) != "abcdefghij" {
		t.Errorf("the answer shares memory: %q", room)
	}
	same := []byte("q")
	twice := All(same, same)
	twice[0] = 'r'
	if string(twice) != "rq" || string(same) != "q" {
		t.Errorf("%q of %q", twice, same)
	}
}

func TestFixedOfEachLength(t *testing.T) {
	for n := 1; n <= 8; n++ {
		for _, x := range numbers() {
			want := make([]byte, n)
			left := x
			for i := range want {
				want[i] = byte(left % 256)
				left /= 256
			}
			got, e := Fixed(x, n)
			if left != 0 && (e != api.ErrArg || len(got) != 0) {
				t.Fatalf("%d has more than %d bytes: % x, error %d", x, n, got, e)
			}
			if left == 0 && (e != api.OK || !bytes.Equal(got, want)) {
				t.Fatalf("%d in %d bytes: % x, error %d, not % x", x, n, got, e, want)
			}
		}
	}
}

func TestFixedOfTheEdges(t *testing.T) {
	for n := 1; n <= 8; n++ {
		most := uint64(math.MaxUint64) >> (64 - 8*n)
		if got, e := Fixed(most, n); e != api.OK || !bytes.Equal(got, bytes.Repeat([]byte{255}, n)) {
			t.Errorf("the most in %d bytes: % x, error %d", n, got, e)
		}
		if got, e := Fixed(0, n); e != api.OK || !bytes.Equal(got, make([]byte, n)) {
			t.Errorf("0 in %d bytes: % x, error %d", n, got, e)
		}
		if n == 8 {
			continue
		}
		if got, e := Fixed(most+1, n); e != api.ErrArg || len(got) != 0 {
			t.Errorf("one more than %d bytes have: % x, error %d", n, got, e)
		}
	}
	for _, n := range []int{0, -1, -8, 9, 10, 64, math.MaxInt, math.MinInt, math.MinInt + 1, 1 << 61, 1<<61 + 1} {
		for _, x := range []uint64{0, 1, math.MaxUint64} {
			if got, e := Fixed(x, n); e != api.ErrArg || len(got) != 0 {
				t.Errorf("Fixed(%d, %d): % x, error %d", x, n, got, e)
			}
		}
	}
}

// P3.2

func TestZigOfTheExamples(t *testing.T) {
	for _, c := range []struct {
		d    int64
		want uint64
	}{
		{0, 0}, {-1, 1}, {1, 2}, {-2, 3}, {2, 4}, {-3, 5}, {3, 6},
		{math.MaxInt64, math.MaxUint64 - 1}, {math.MinInt64, math.MaxUint64}, {math.MinInt64 + 1, math.MaxUint64 - 2},
	} {
		if got := Zig(uint64(c.d)); got != c.want {
			t.Errorf("Zig of %d: %d, not %d", c.d, got, c.want)
		}
		if got := Zag(c.want); got != uint64(c.d) {
			t.Errorf("Zag of %d: %d, not %d", c.want, int64(got), c.d)
		}
	}
}

func TestZigCountsOutFromZero(t *testing.T) {
	for k := range uint64(5000) {
		if Zig(k) != 2*k || Zag(2*k) != k {
			t.Fatalf("of %d: %d and %d", k, Zig(k), Zag(2*k))
		}
		if Zig(-k-1) != 2*k+1 || Zag(2*k+1) != -k-1 {
			t.Fatalf("of -%d: %d and %d", k+1, Zig(-k-1), Zag(2*k+1))
		}
	}
}

func TestZagOfZigIsTheSame(t *testing.T) {
	for _, x := range numbers() {
		if Zag(Zig(x)) != x || Zig(Zag(x)) != x {
			t.Fatalf("of %d: %d and %d", x, Zag(Zig(x)), Zig(Zag(x)))
		}
		if Zag(Zig(-x)) != -x {
			t.Fatalf("of -%d", x)
		}
	}
}

// P3.8 of single calls; of rows of calls it is told in cursor_test.go

func TestWhatWasWrittenIsRead(t *testing.T) {
	for _, x := range numbers() {
		c := New(All(Num(x), Num(x), Num(Zig(x))))
		if a, b, z := c.Num(), c.Num(), Zag(c.Num()); a != x || b != x || z != x || c.End() != api.OK {
			t.Fatalf("of %d: %d, %d, %d, error %d", x, a, b, z, c.Err())
		}
		for n := 1; n <= 8; n++ {
			b, e := Fixed(x, n)
			if e != api.OK {
				continue
			}
			d := New(b)
			if got := d.Fixed(n); got != x || d.End() != api.OK {
				t.Fatalf("of %d in %d bytes: %d, error %d", x, n, got, d.Err())
			}
		}
	}
	for _, n := range []int{0, 1, 127, 128, 5000} {
		s := string(bytes.Repeat([]byte{200}, n))
		c := New(All(Text(s), Text("")))
		if a, b := c.Text(n), c.Text(0); a != s || b != "" || c.End() != api.OK {
			t.Errorf("of %d bytes: %d and %d, error %d", n, len(a), len(b), c.Err())
		}
	}
}

func TestEachRowThatIsReadIsTheOneThatIsWritten(t *testing.T) {
	d := dice(9)
	read := 0
	for range 100000 {
		b := d.bytes(1 + d.below(11))
		c := New(b)
		x := c.Num()
		if c.Err() != api.OK {
			continue
		}
		read++
		if got := b[:c.At()]; !bytes.Equal(Num(x), got) {
			t.Fatalf("% x is read as %d, which is written % x", got, x, Num(x))
		}
	}
	if read < 10000 {
		t.Errorf("of the rows %d are numbers'", read)
	}
}
