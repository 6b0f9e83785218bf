package bits

import (
	"bytes"
	"math"
	"testing"

	"firkin/api"
)

// plain is a row of bits as the document's words tell it: a number 0 or 1 for each bit.
type plain []byte

func plainOf(b []byte) plain {
	var p plain
	for _, x := range b {
		p = p.with(uint64(x), 8)
	}
	return p
}

// with puts n bits of x behind, the highest first.
func (p plain) with(x uint64, n int) plain {
	for i := n - 1; i >= 0; i-- {
		p = append(p, byte(x>>i&1))
	}
	return p
}

func (p plain) withUnary(n int) plain {
	for range n {
		p = append(p, 0)
	}
	return append(p, 1)
}

func (p plain) asBytes() []byte {
	var out []byte
	for at := 0; at < len(p); at += 8 {
		var x byte
		for i := range 8 {
			x *= 2
			if at+i < len(p) {
				x += p[at+i]
			}
		}
		out = append(out, x)
	}
	return out
}

// number tells the first n bits, with bits 0 for those that aren't there.
func (p plain) number(n int) uint64 {
	var x uint64
	for i := range n {
		x *= 2
		if i < len(p) {
			x += uint64(p[i])
		}
	}
	return x
}

// zeros tells how many bits 0 are ahead of the first 1, and whether there is one.
func (p plain) zeros() (int, bool) {
	n := bytes.IndexByte(p, 1)
	return max(n, 0), n >= 0
}

// dice tells numbers that look like chance, the same in each run.
type dice uint64

func (d *dice) next() uint64 {
	*d = *d*6364136223846793005 + 1442695040888963407
	x := uint64(*d)
	return x ^ x>>29
}

func (d *dice) below(n int) int { return int(d.next() >> 1 % uint64(n)) }

// bytes tells n bytes, in which bits 0 and bits 1 stand together at times.
func (d *dice) bytes(n int) []byte {
	out := make([]byte, n)
	for i := range out {
		switch d.below(4) {
		case 0:
			out[i] = 0
		case 1:
			out[i] = 255
		default:
			out[i] = byte(d.next())
		}
	}
	return out
}

func checkWriter(t *testing.T, w *Writer, want plain) {
	t.Helper()
	if w.Len() != len(want) {
		t.Fatalf("Len %d, not %d", w.Len(), len(want))
	}
	if got := w.Bytes(); !bytes.Equal(got, want.asBytes()) {
		t.Fatalf("Bytes %x, not %x", got, want.asBytes())
	}
}

// checkLeft looks at what is left in a reader, and that looking takes nothing.
func checkLeft(t *testing.T, r *Reader, want plain) {
	t.Helper()
	if r.Left() != len(want) {
		t.Fatalf("Left %d, not %d", r.Left(), len(want))
	}
	for _, n := range []int{0, 1, 7, 8, 9, 63, 64} {
		x, there := r.Peek(n)
		if x != want.number(n) || there != min(n, len(want)) {
			t.Fatalf("Peek(%d) %d, %d of %v", n, x, there, want)
		}
	}
	pad := api.OK
	if _, one := want.zeros(); one || len(want) >= 8 {
		pad = api.ErrForm
	}
	if got := r.Pad(); got != pad {
		t.Fatalf("Pad %d, not %d, of %v", got, pad, want)
	}
	if r.Left() != len(want) {
		t.Fatal("looking took bits")
	}
}

// P2.1

func TestExample(t *testing.T) {
	var w Writer
	if w.Put(5, 3) != api.OK || w.Unary(2) != api.OK {
		t.Fatal("refused")
	}
	checkWriter(t, &w, plain{1, 0, 1, 0, 0, 1})
	if !bytes.Equal(w.Bytes(), []byte{0xA4}) {
		t.Fatal(w.Bytes())
	}
	r := NewReader(w.Bytes())
	if x, e := r.Get(3); x != 5 || e != api.OK {
		t.Fatal(x, e)
	}
	if n, e := r.Unary(); n != 2 || e != api.OK {
		t.Fatal(n, e)
	}
	if r.Left() != 2 || r.Pad() != api.OK {
		t.Fatal(r.Left(), r.Pad())
	}
}

func TestZeroWriter(t *testing.T) {
	var w Writer
	checkWriter(t, &w, nil)
	if w.Put(0, 0) != api.OK {
		t.Error("no bits refused")
	}
	checkWriter(t, &w, nil)
}

func TestPutOfEachLengthAtEachPlace(t *testing.T) {
	for at := range 17 {
		for n := range 65 {
			all := ^uint64(0) >> (64 - n)
			for _, x := range []uint64{0, 1, all, all >> 1, all &^ 1, all & 0xA5C3F00F12345678} {
				if x > all {
					continue
				}
				var w Writer
				want := plain{}.with(1<<at-1, at).with(x, n).with(1, 1)
				if w.Put(1<<at-1, at) != api.OK || w.Put(x, n) != api.OK || w.Put(1, 1) != api.OK {
					t.Fatal("refused", at, n, x)
				}
				checkWriter(t, &w, want)
			}
		}
	}
}

func TestPutRefuses(t *testing.T) {
	var w Writer
	w.Put(5, 3)
	for _, c := range []struct {
		x uint64
		n int
	}{{0, -1}, {0, 65}, {1, 65}, {0, 128}, {0, math.MaxInt}, {0, math.MinInt}, {1, -1}, {1, 0}, {2, 1}, {4, 2}, {255, 7}, {256, 8}, {1 << 32, 32}, {1 << 62, 62}, {1 << 63, 63}, {math.MaxUint64, 63}} {
		if e := w.Put(c.x, c.n); e != api.ErrArg {
			t.Errorf("Put(%d, %d) %d", c.x, c.n, e)
		}
		checkWriter(t, &w, plain{1, 0, 1})
	}
	for n := range 64 {
		if w.Put(1<<n, n) != api.ErrArg {
			t.Error("one bit more than", n)
		}
	}
	checkWriter(t, &w, plain{1, 0, 1})
}

func TestWriterUnary(t *testing.T) {
	for at := range 9 {
		for n := range 70 {
			var w Writer
			w.Put(1<<at-1, at)
			if w.Unary(n) != api.OK || w.Put(3, 2) != api.OK {
				t.Fatal("refused", at, n)
			}
			checkWriter(t, &w, plain{}.with(1<<at-1, at).withUnary(n).with(3, 2))
		}
	}
}

func TestWriterUnaryToItsBound(t *testing.T) {
	var w Writer
	want := plain{}
	for _, n := range []int{99999, 100000, 0} {
		if w.Unary(n) != api.OK {
			t.Fatal("refused", n)
		}
		want = want.withUnary(n)
	}
	checkWriter(t, &w, want)
	for _, n := range []int{-1, -100000, math.MinInt, 100001, math.MaxInt} {
		if e := w.Unary(n); e != api.ErrArg {
			t.Errorf("Unary(%d) %d", n, e)
		}
	}
	checkWriter(t, &w, want)
}

func TestWriterAtRandom(t *testing.T) {
	d := dice(7)
	for range 200 {
		var w Writer
		want := plain{}
		for range d.below(60) {
			if d.below(3) == 0 {
				n := d.below(40)
				if w.Unary(n) != api.OK {
					t.Fatal("refused")
				}
				want = want.withUnary(n)
				continue
			}
			n := d.below(65)
			x := d.next() & (^uint64(0) >> (64 - n))
			if w.Put(x, n) != api.OK {
				t.Fatal("refused")
			}
			want = want.with(x, n)
		}
		checkWriter(t, &w, want)
	}
}

func TestBytesAreNewMemory(t *testing.T) {
	var w Writer
	w.Put(0x1234567, 28)
	first := w.Bytes()
	second := w.Bytes()
	w.Put(15, 4)
	if !bytes.Equal(first, []byte{0x12, 0x34, 0x56, 0x70}) {
		t.Errorf("an answer went on with the writer: %x", first)
	}
	for i := range first[:cap(first)] {
		first[:cap(first)][i] = 0xEE
	}
	if !bytes.Equal(second, []byte{0x12, 0x34, 0x56, 0x70}) {
		t.Errorf("two answers are one: %x", second)
	}
	w.Put(0, 9)
	if !bytes.Equal(w.Bytes(), []byte{0x12, 0x34, 0x56, 0x7F, 0, 0}) {
		t.Errorf("an answer is the writer's own: %x", w.Bytes())
	}
}

func TestWritersAreTheirOwn(t *testing.T) {
	var a, b Writer
	a.Put(1, 1)
	b.Put(0, 1)
	a.Put(1, 1)
	checkWriter(t, &a, plain{1, 1})
	checkWriter(t, &b, plain{0})
}

// P2.2, P2.3, P2.4

func TestGetOfEachLengthAtEachPlace(t *testing.T) {
	d := dice(3)
	for at := range 17 {
		for n := range 65 {
			b := d.bytes(12)
			p := plainOf(b)
			r := NewReader(b)
			if x, e := r.Get(at); x != p.number(at) || e != api.OK {
				t.Fatal(x, e)
			}
			if x, e := r.Get(n); x != p[at:].number(n) || e != api.OK {
				t.Fatalf("at %d Get(%d) %d, %d", at, n, x, e)
			}
			checkLeft(t, r, p[at+n:])
		}
	}
}

func TestReaderRefuses(t *testing.T) {
	for _, c := range []struct {
		taken int
		bytes []byte
	}{{0, nil}, {0, []byte{0}}, {3, []byte{0xA4}}, {8, []byte{0xFF}}, {5, []byte{1, 2, 0x80}}, {3, []byte{1, 2, 3, 4, 5, 6, 7, 8}}} {
		r := NewReader(c.bytes)
		r.Skip(c.taken)
		left := plainOf(c.bytes)[c.taken:]
		for _, n := range []int{-1, -8, math.MinInt, 65, 100, math.MaxInt} {
			if x, e := r.Get(n); x != 0 || e != api.ErrArg {
				t.Errorf("Get(%d) %d, %d", n, x, e)
			}
			if x, there := r.Peek(n); x != 0 || there != 0 {
				t.Errorf("Peek(%d) %d, %d", n, x, there)
			}
		}
		for n := len(left) + 1; n <= 64; n++ {
			if x, e := r.Get(n); x != 0 || e != api.ErrShort {
				t.Errorf("Get(%d) %d, %d", n, x, e)
			}
		}
		for _, n := range []int{-1, -64, math.MinInt} {
			if e := r.Skip(n); e != api.ErrArg {
				t.Errorf("Skip(%d) %d", n, e)
			}
		}
		for _, n := range []int{len(left) + 1, len(left) + 64, math.MaxInt} {
			if e := r.Skip(n); e != api.ErrShort {
				t.Errorf("Skip(%d) %d", n, e)
			}
		}
		checkLeft(t, r, left)
	}
}

func TestGetOfAllThatIsLeft(t *testing.T) {
	for n := range 9 {
		b := bytes.Repeat([]byte{0x9D}, n)
		r := NewReader(b)
		if x, e := r.Get(8 * n); x != plainOf(b).number(8*n) || e != api.OK {
			t.Error(n, x, e)
		}
		checkLeft(t, r, nil)
		if x, e := r.Get(0); x != 0 || e != api.OK {
			t.Error("no bits at the end:", x, e)
		}
	}
}

func TestSkip(t *testing.T) {
	d := dice(5)
	b := d.bytes(40)
	p := plainOf(b)
	for n := range len(p) + 1 {
		r := NewReader(b)
		if e := r.Skip(n); e != api.OK {
			t.Fatal(n, e)
		}
		checkLeft(t, r, p[n:])
		if e := r.Skip(0); e != api.OK {
			t.Fatal(n, e)
		}
		checkLeft(t, r, p[n:])
		if e := r.Skip(len(p) - n); e != api.OK {
			t.Fatal(n, e)
		}
		checkLeft(t, r, nil)
	}
}

func TestReaderUnary(t *testing.T) {
	for at := range 9 {
		for n := range 40 {
			for _, behind := range []plain{nil, {0}, {1}, {0, 0, 0, 0, 0, 0, 0, 0, 0, 1}} {
				p := append(plain{}.with(1<<at-1, at).withUnary(n), behind...)
				r := NewReader(p.asBytes())
				r.Skip(at)
				got, e := r.Unary()
				if got != n || e != api.OK {
					t.Fatalf("%d, %d of %d at %d", got, e, n, at)
				}
				checkLeft(t, r, plainOf(p.asBytes())[at+n+1:])
			}
		}
	}
}

func TestReaderUnaryOfNoOne(t *testing.T) {
	for n := range 40 {
		for at := range 8*n + 1 {
			r := NewReader(make([]byte, n))
			r.Skip(at)
			if got, e := r.Unary(); got != 0 || e != api.ErrShort {
				t.Fatal(got, e)
			}
			checkLeft(t, r, make(plain, 8*n-at))
		}
	}
	r := NewReader([]byte{0, 0x10, 0})
	r.Unary()
	if got, e := r.Unary(); got != 0 || e != api.ErrShort {
		t.Error(got, e)
	}
	checkLeft(t, r, make(plain, 12))
}

func TestReaderUnaryBeyondTheWritersBound(t *testing.T) {
	r := NewReader(append(make([]byte, 100000), 1))
	if n, e := r.Unary(); n != 800007 || e != api.OK {
		t.Error(n, e)
	}
	checkLeft(t, r, nil)
}

func TestPad(t *testing.T) {
	for x := range 256 {
		for at := range 9 {
			r := NewReader([]byte{byte(x)})
			r.Skip(at)
			want := api.OK
			if at == 0 || x<<at&255 != 0 {
				want = api.ErrForm
			}
			if got := r.Pad(); got != want || r.Left() != 8-at {
				t.Errorf("%08b at %d: %d", x, at, got)
			}
		}
	}
	r := NewReader([]byte{0, 0})
	for left := 16; left >= 0; left-- {
		if e := r.Pad(); (e == api.OK) != (left < 8) || e != api.OK && e != api.ErrForm {
			t.Error(left, e)
		}
		r.Skip(1)
	}
}

func TestReaderAtRandom(t *testing.T) {
	d := dice(11)
	for range 300 {
		b := d.bytes(d.below(40))
		r, p := NewReader(b), plainOf(b)
		for range 40 {
			n := d.below(67)
			switch d.below(3) {
			case 0:
				x, e := r.Get(n)
				switch {
				case n > 64:
					checkErr(t, x, e, api.ErrArg)
				case n > len(p):
					checkErr(t, x, e, api.ErrShort)
				default:
					checkErr(t, x-p.number(n), e, api.OK)
					p = p[n:]
				}
			case 1:
				zeros, e := r.Unary()
				if want, one := p.zeros(); one {
					checkErr(t, uint64(zeros-want), e, api.OK)
					p = p[want+1:]
				} else {
					checkErr(t, uint64(zeros), e, api.ErrShort)
				}
			default:
				if e := r.Skip(n); n > len(p) {
					checkErr(t, 0, e, api.ErrShort)
				} else {
					checkErr(t, 0, e, api.OK)
					p = p[n:]
				}
			}
			checkLeft(t, r, p)
		}
	}
}

// checkErr holds an error against that which is due; the number beside it must be 0.
func checkErr(t *testing.T, x uint64, got, want api.Errno) {
	t.Helper()
	if x != 0 || got != want {
		t.Fatalf("off by %d, error %d, not %d", x, got, want)
	}
}

func TestReaderKeepsNothing(t *testing.T) {
	room := []byte{0xA5, 0x5A, 0xC3, 0x3C}
	b := room[:2]
	r := NewReader(b)
	other := NewReader(b)
	if x, e := r.Get(12); x != 0xA55 || e != api.OK {
		t.Fatal(x, e)
	}
	if !bytes.Equal(room, []byte{0xA5, 0x5A, 0xC3, 0x3C}) {
		t.Errorf("the bytes are others: %x", room)
	}
	clear(room)
	if x, e := r.Get(4); x != 10 || e != api.OK {
		t.Error("a reader keeps what it is of", x, e)
	}
	if x, e := other.Get(16); x != 0xA55A || e != api.OK {
		t.Error("two readers are one", x, e)
	}
}

func TestZeroReader(t *testing.T) {
	var r Reader
	checkLeft(t, &r, nil)
	if x, e := r.Get(0); x != 0 || e != api.OK {
		t.Error(x, e)
	}
	if x, e := r.Get(1); x != 0 || e != api.ErrShort {
		t.Error(x, e)
	}
}

// P2.5

func TestNilWriter(t *testing.T) {
	var w *Writer
	for _, n := range []int{-1, 0, 1, 64, 65, 100001} {
		if w.Put(0, n) != api.ErrArg || w.Unary(n) != api.ErrArg {
			t.Error(n)
		}
	}
	if w.Len() != 0 || len(w.Bytes()) != 0 {
		t.Error("a nil writer has bits")
	}
}

func TestNilReader(t *testing.T) {
	var r *Reader
	for _, n := range []int{math.MinInt, -1, 0, 1, 8, 64, 65, math.MaxInt} {
		get, skip := api.ErrShort, api.ErrShort
		if n < 0 || n > 64 {
			get = api.ErrArg
		}
		if n < 0 {
			skip = api.ErrArg
		}
		x, e := r.Get(n)
		checkErr(t, x, e, get)
		checkErr(t, 0, r.Skip(n), skip)
		if x, there := r.Peek(n); x != 0 || there != 0 {
			t.Error(n, x, there)
		}
	}
	n, e := r.Unary()
	checkErr(t, uint64(n), e, api.ErrShort)
	if r.Left() != 0 || r.Pad() != api.OK {
		t.Error(r.Left(), r.Pad())
	}
}

// P2.6

func TestWhatWasPutIsGot(t *testing.T) {
	d := dice(13)
	for range 100 {
		type item struct {
			x     uint64
			n     int
			unary bool
		}
		var items []item
		var w Writer
		for range d.below(200) {
			it := item{n: d.below(65), unary: d.below(4) == 0}
			if it.unary {
				w.Unary(it.n)
			} else {
				it.x = d.next() & (^uint64(0) >> (64 - it.n))
				w.Put(it.x, it.n)
			}
			items = append(items, it)
		}
		r := NewReader(w.Bytes())
		for _, it := range items {
			if it.unary {
				n, e := r.Unary()
				checkErr(t, uint64(n-it.n), e, api.OK)
			} else {
				x, e := r.Get(it.n)
				checkErr(t, x-it.x, e, api.OK)
			}
		}
		if r.Left() != len(w.Bytes())*8-w.Len() || r.Pad() != api.OK {
			t.Fatal("left", r.Left())
		}
	}
}
