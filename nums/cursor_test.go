package nums

import (
	"bytes"
	"math"
	"testing"

	"firkin/api"
)

// plain is a cursor as the document's words tell it.
type plain struct {
	bytes []byte
	at    int
	err   api.Errno
}

// isNumber tells whether the row is a number's bytes.
func isNumber(b []byte) bool {
	for i, x := range b {
		last := i == len(b)-1
		if (x < 128) != last || i > 9 || i == 9 && x != 1 || last && x == 0 && i > 0 {
			return false
		}
	}
	return len(b) > 0
}

// goesOn tells whether some number's bytes begin with the row, and have more.
func goesOn(b []byte) bool {
	return isNumber(append(bytes.Clone(b), 1))
}

// number tells the number that the bytes ahead begin with, how many bytes it has, and the error.
func (p *plain) number() (uint64, int, api.Errno) {
	ahead := p.bytes[p.at:]
	for n := 1; n <= len(ahead); n++ {
		if isNumber(ahead[:n]) {
			return value(ahead[:n], 128), n, api.OK
		}
		if !goesOn(ahead[:n]) {
			return 0, 0, api.ErrForm
		}
	}
	return 0, 0, api.ErrShort
}

// value tells the number of which the bytes are the digits, the lowest first.
func value(b []byte, base uint64) uint64 {
	if len(b) == 0 {
		return 0
	}
	return uint64(b[0])%base + base*value(b[1:], base)
}

// take tells the next n bytes, which must be told behind so many others.
func (p *plain) take(skip, n int) []byte {
	if n > len(p.bytes)-p.at-skip {
		p.err = api.ErrShort
		return nil
	}
	out := p.bytes[p.at+skip : p.at+skip+n]
	p.at += skip + n
	return out
}

// told is what a call told, whichever it was.
type told struct {
	number uint64
	text   string
}

// call is one of the calls that read, with its n.
type call struct {
	name string
	n    int
}

func (c call) of(cur *Cursor) told {
	switch c.name {
	case "Num":
		return told{number: cur.Num()}
	case "Int":
		return told{number: uint64(cur.Int(c.n))}
	case "Byte":
		return told{number: uint64(cur.Byte())}
	case "Fixed":
		return told{number: cur.Fixed(c.n)}
	case "Take":
		return told{text: string(cur.Take(c.n))}
	}
	return told{text: cur.Text(c.n)}
}

func (c call) ofPlain(p *plain) told {
	if p.err != api.OK {
		return told{}
	}
	x, size, e := p.number()
	if c.name != "Num" && e == api.OK && (c.n < 0 || x > uint64(c.n)) {
		e = api.ErrLimit
	}
	switch c.name {
	case "Byte":
		return told{number: value(p.take(0, 1), 256)}
	case "Fixed":
		if c.n < 1 || c.n > 8 {
			p.err = api.ErrArg
			return told{}
		}
		return told{number: value(p.take(0, c.n), 256)}
	case "Take":
		if c.n < 0 {
			p.err = api.ErrArg
			return told{}
		}
		return told{text: string(p.take(0, c.n))}
	}
	p.err = e
	switch {
	case e != api.OK:
		return told{}
	case c.name == "Text":
		return told{text: string(p.take(size, int(x)))}
	}
	p.take(0, size)
	return told{number: x}
}

// check holds a cursor against a plain one, without End, which may give it an error.
func check(t *testing.T, c *Cursor, p *plain) {
	t.Helper()
	if c.At() != p.at || c.Left() != len(p.bytes)-p.at || c.Err() != p.err {
		t.Fatalf("At %d, Left %d, Err %d over % x, not %d, %d, %d", c.At(), c.Left(), c.Err(), p.bytes, p.at, len(p.bytes)-p.at, p.err)
	}
}

// do does the call with both, and holds them against each other.
func do(t *testing.T, c *Cursor, p *plain, by call) {
	t.Helper()
	got, want := by.of(c), by.ofPlain(p)
	if got != want {
		t.Fatalf("%s(%d) is %v, not %v, over % x, at %d then", by.name, by.n, got, want, p.bytes, p.at)
	}
	check(t, c, p)
}

// names are those of the calls that read.
var names = []string{"Num", "Int", "Byte", "Fixed", "Take", "Text"}

// edges are the n of calls by their edges.
var edges = []int{math.MinInt, -256, -1, 0, 1, 2, 7, 8, 9, 127, 128, 255, 300, 16384, 1 << 32, math.MaxInt}

// reading tells each call that reads, with each n.
func reading() []call {
	var out []call
	for _, name := range names {
		for _, n := range edges {
			out = append(out, call{name, n})
		}
	}
	return out
}

// rows tells rows of bytes, those that are nearly numbers among them.
func rows() [][]byte {
	out := [][]byte{nil, {}}
	often := []byte{0, 1, 2, 3, 127, 128, 129, 172, 255}
	for _, begin := range [][]byte{nil, bytes.Repeat([]byte{128}, 6), bytes.Repeat([]byte{255}, 7), bytes.Repeat([]byte{128}, 8), bytes.Repeat([]byte{255}, 9), bytes.Repeat([]byte{128}, 10)} {
		out = append(out, begin)
		for _, a := range often {
			out = append(out, append(bytes.Clone(begin), a))
			for _, b := range often {
				out = append(out, append(bytes.Clone(begin), a, b))
				for _, c := range often {
					out = append(out, append(bytes.Clone(begin), a, b, c))
				}
			}
		}
	}
	return out
}

// P3.3

func TestNewStandsAtTheFirst(t *testing.T) {
	for _, n := range []int{0, 1, 2, 1000} {
		c := New(make([]byte, n))
		check(t, c, &plain{bytes: make([]byte, n)})
	}
}

func TestLeftAndAtGoAlong(t *testing.T) {
	b := All(Num(300), Text("abc"), []byte{9}, []byte{1, 2, 3}, []byte("xy"), Num(5))
	c, p := New(b), &plain{bytes: b}
	for _, s := range []struct {
		call
		at int
	}{{call{"Num", 0}, 2}, {call{"Text", 3}, 6}, {call{"Byte", 0}, 7}, {call{"Fixed", 3}, 10}, {call{"Take", 0}, 10}, {call{"Take", 2}, 12}, {call{"Int", 5}, 13}} {
		do(t, c, p, s.call)
		if c.At() != s.at || c.Left() != 13-s.at || c.Err() != api.OK {
			t.Errorf("behind %s: At %d, Left %d, Err %d", s.name, c.At(), c.Left(), c.Err())
		}
	}
	if c.End() != api.OK {
		t.Error(c.Err())
	}
}

func TestNewKeepsNothing(t *testing.T) {
	room := []byte("\x02abcdefg")
	c := New(room[:4])
	copy(room, "\x01zzzzzzz")
	if got := c.Text(3); got != "ab" || c.Err() != api.OK {
		t.Errorf("%q, error %d", got, c.Err())
	}
	if got := c.Byte(); got != 'c' || c.Left() != 0 {
		t.Errorf("%q, and %d are left", got, c.Left())
	}
}

func TestCursorsAreTheirOwn(t *testing.T) {
	b := []byte("abc")
	x, y := New(b), New(b)
	x.Take(2)
	x.Fail(api.ErrCode)
	check(t, y, &plain{bytes: b})
	if y.Byte() != 'a' || x.At() != 2 {
		t.Error("one goes along with the other")
	}
}

// P3.4

func TestWhatTellsAnErrorTakesNothing(t *testing.T) {
	for _, c := range []struct {
		bytes []byte
		call
		want api.Errno
	}{
		{nil, call{"Num", 0}, api.ErrShort},
		{[]byte{0x80}, call{"Num", 0}, api.ErrShort},
		{[]byte{0x80, 0, 7}, call{"Num", 0}, api.ErrForm},
		{[]byte{8, 7}, call{"Int", 7}, api.ErrLimit},
		{nil, call{"Byte", 0}, api.ErrShort},
		{[]byte{1, 2, 3}, call{"Fixed", 4}, api.ErrShort},
		{[]byte{1, 2, 3}, call{"Fixed", 0}, api.ErrArg},
		{[]byte{1, 2, 3}, call{"Take", 4}, api.ErrShort},
		{[]byte{1, 2, 3}, call{"Take", -1}, api.ErrArg},
		{[]byte{3, 'a', 'b'}, call{"Text", 3}, api.ErrShort},
		{[]byte{3, 'a', 'b'}, call{"Text", 2}, api.ErrLimit},
		{[]byte{0x83, 0, 'b'}, call{"Text", 300}, api.ErrForm},
	} {
		for _, ahead := range []string{"", "ahead"} {
			b := append([]byte(ahead), c.bytes...)
			cur := New(b)
			cur.Take(len(ahead))
			if got := c.call.of(cur); got != (told{}) {
				t.Errorf("%s(%d) tells %v", c.name, c.n, got)
			}
			check(t, cur, &plain{b, len(ahead), c.want})
			for _, later := range reading() {
				if got := later.of(cur); got != (told{}) {
					t.Errorf("%s(%d) tells %v behind an error", later.name, later.n, got)
				}
				check(t, cur, &plain{b, len(ahead), c.want})
			}
			cur.Fail(api.ErrCode)
			if cur.End() != c.want {
				t.Errorf("End %d, not %d", cur.End(), c.want)
			}
			check(t, cur, &plain{b, len(ahead), c.want})
		}
	}
}

// P3.5

func TestReadingCallsOverManyRows(t *testing.T) {
	calls := reading()
	for _, b := range rows() {
		for _, by := range calls {
			do(t, New(b), &plain{bytes: b}, by)
		}
	}
}

func TestNumTellsTheFirstByteThatIsWrong(t *testing.T) {
	of := func(n int, more ...byte) []byte { return append(bytes.Repeat([]byte{0xFF}, n), more...) }
	for _, c := range []struct {
		bytes []byte
		x     uint64
		want  api.Errno
	}{
		{[]byte{0x80, 0}, 0, api.ErrForm},
		{[]byte{0xFF}, 0, api.ErrShort},
		{[]byte{0}, 0, api.OK},
		{of(8), 0, api.ErrShort},
		{of(9), 0, api.ErrShort},
		{of(9, 1), math.MaxUint64, api.OK},
		{of(9, 0), 0, api.ErrForm},
		{of(9, 2), 0, api.ErrForm},
		{of(9, 0x7F), 0, api.ErrForm},
		{of(9, 0x80), 0, api.ErrForm},
		{of(9, 0x81), 0, api.ErrForm},
		{of(9, 0x81, 1), 0, api.ErrForm},
		{of(10), 0, api.ErrForm},
		{of(30), 0, api.ErrForm},
		{of(8, 0), 0, api.ErrForm},
		{of(8, 0x7F), 1<<63 - 1, api.OK},
		{of(1, 0, 0xFF), 0, api.ErrForm},
	} {
		cur := New(c.bytes)
		if got := cur.Num(); got != c.x || cur.Err() != c.want {
			t.Errorf("over % x: %d, error %d", c.bytes, got, cur.Err())
		}
	}
}

func TestIntIsAtMostItsMost(t *testing.T) {
	for _, most := range []int{math.MinInt, -1, 0, 1, 127, 128, 300, math.MaxInt32, math.MaxInt - 1, math.MaxInt} {
		for _, x := range []uint64{0, 1, 127, 128, 300, 301, math.MaxInt32, math.MaxInt32 + 1, math.MaxInt - 1, math.MaxInt, math.MaxInt + 1, math.MaxUint64 - 1, math.MaxUint64} {
			b := Num(x)
			do(t, New(b), &plain{bytes: b}, call{"Int", most})
		}
		for _, c := range []struct {
			bytes []byte
			want  api.Errno
		}{{nil, api.ErrShort}, {[]byte{0xFF, 0xFF}, api.ErrShort}, {[]byte{0xFF, 0}, api.ErrForm}} {
			cur := New(c.bytes)
			if got := cur.Int(most); got != 0 || cur.Err() != c.want {
				t.Errorf("Int(%d) over % x: %d, error %d", most, c.bytes, got, cur.Err())
			}
		}
	}
}

func TestTextOfItsErrorsInOrder(t *testing.T) {
	long := bytes.Repeat([]byte("ab"), 100)
	for _, c := range []struct {
		bytes []byte
		most  int
		text  string
		want  api.Errno
	}{
		{All(Num(200), long), 200, string(long), api.OK},
		{All(Num(200), long), 199, "", api.ErrLimit},
		{All(Num(201), long), 200, "", api.ErrLimit},
		{All(Num(201), long), 201, "", api.ErrShort},
		{All(Num(199), long), 1000, string(long[:199]), api.OK},
		{[]byte{0}, 0, "", api.OK},
		{[]byte{0}, -1, "", api.ErrLimit},
		{[]byte{1}, 0, "", api.ErrLimit},
		{[]byte{1}, 1, "", api.ErrShort},
		{nil, 0, "", api.ErrShort},
		{nil, -1, "", api.ErrShort},
		{[]byte{0x80, 0}, -1, "", api.ErrForm},
		{Num(math.MaxInt), math.MaxInt, "", api.ErrShort},
		{Num(math.MaxInt + 1), math.MaxInt, "", api.ErrLimit},
		{Num(math.MaxUint64), math.MaxInt, "", api.ErrLimit},
	} {
		cur := New(c.bytes)
		if got := cur.Text(c.most); got != c.text || cur.Err() != c.want {
			t.Errorf("Text(%d) over % x: %q, error %d", c.most, c.bytes, got, cur.Err())
		}
	}
}

func TestTakeTellsNewMemory(t *testing.T) {
	cur := New([]byte("abcdef"))
	first := cur.Take(2)
	for i := range first[:cap(first)] {
		first[:cap(first)][i] = 'x'
	}
	_ = append(first, "yyyy"...)
	second := cur.Take(4)
	if string(second) != "cdef" || string(first) != "xx" {
		t.Errorf("%q behind %q", second, first)
	}
	if got := cur.Take(0); len(got) != 0 || cur.End() != api.OK {
		t.Errorf("%q, error %d", got, cur.Err())
	}
}

func TestReadingAtRandom(t *testing.T) {
	d := dice(4)
	for range 20000 {
		b := d.bytes(d.below(60))
		c, p := New(b), &plain{bytes: b}
		for range 12 {
			n := d.below(12) - 1
			if d.below(4) == 0 {
				n = edges[d.below(len(edges))]
			}
			do(t, c, p, call{names[d.below(len(names))], n})
		}
	}
}

// P3.6

func TestFailGivesTheFirstErrorAlone(t *testing.T) {
	for _, e := range []api.Errno{api.ErrShort, api.ErrForm, api.ErrArg, api.ErrNone, 99, -1} {
		cur := New([]byte("abc"))
		cur.Byte()
		cur.Fail(api.OK)
		check(t, cur, &plain{[]byte("abc"), 1, api.OK})
		cur.Fail(e)
		check(t, cur, &plain{[]byte("abc"), 1, e})
		cur.Fail(api.ErrSum)
		cur.Fail(api.OK)
		for _, by := range reading() {
			if got := by.of(cur); got != (told{}) {
				t.Errorf("%s(%d) tells %v behind Fail", by.name, by.n, got)
			}
		}
		if cur.End() != e {
			t.Errorf("End %d, not %d", cur.End(), e)
		}
		check(t, cur, &plain{[]byte("abc"), 1, e})
	}
}

func TestEnd(t *testing.T) {
	for n := range 4 {
		b := make([]byte, n)
		for taken := range n + 1 {
			cur := New(b)
			cur.Take(taken)
			want := api.OK
			if taken < n {
				want = api.ErrForm
			}
			if got := cur.End(); got != want {
				t.Errorf("behind %d of %d: %d", taken, n, got)
			}
			check(t, cur, &plain{b, taken, want})
			cur.Fail(api.ErrSum)
			if want == api.OK {
				want = api.ErrSum
			}
			if got := cur.End(); got != want {
				t.Errorf("behind Fail: %d, not %d", got, want)
			}
			check(t, cur, &plain{b, taken, want})
		}
	}
}

func TestEndStopsTheCursor(t *testing.T) {
	cur := New([]byte{5, 6})
	if cur.End() != api.ErrForm || cur.Byte() != 0 || cur.At() != 0 || cur.Left() != 2 {
		t.Errorf("At %d, Left %d", cur.At(), cur.Left())
	}
	cur = New([]byte{5})
	cur.Num()
	if cur.End() != api.OK || cur.Byte() != 0 || cur.End() != api.ErrShort {
		t.Errorf("error %d behind the end", cur.Err())
	}
}

// P3.7

func TestNilCursor(t *testing.T) {
	var c *Cursor
	for range 2 {
		if c.Left() != 0 || c.At() != 0 || c.Err() != api.ErrArg || c.End() != api.ErrArg {
			t.Error(c.Left(), c.At(), c.Err(), c.End())
		}
		for _, by := range reading() {
			if got := by.of(c); got != (told{}) {
				t.Errorf("%s(%d) tells %v", by.name, by.n, got)
			}
		}
		c.Fail(api.ErrSum)
		c.Fail(api.OK)
	}
}

func TestCursorOfNilBytesIsNone(t *testing.T) {
	for _, b := range [][]byte{nil, {}} {
		c := New(b)
		if c == nil || c.Left() != 0 || c.Err() != api.OK || c.End() != api.OK {
			t.Fatal("a cursor over nothing isn't at its end")
		}
	}
}

// P3.8

func TestRowsOfAllKindsAreRead(t *testing.T) {
	d := dice(6)
	for range 500 {
		var written []byte
		var calls []call
		var want []told
		for range d.below(30) {
			x := d.next() >> d.below(64)
			n := 1 + d.below(8)
			s := string(d.bytes(d.below(300)))
			fixed, _ := Fixed(x>>(64-8*n), n)
			switch d.below(5) {
			case 0:
				written, calls, want = All(written, Num(x)), append(calls, call{"Num", 0}), append(want, told{number: x})
			case 1:
				written, calls, want = All(written, Num(x>>1)), append(calls, call{"Int", int(x >> 1)}), append(want, told{number: x >> 1})
			case 2:
				written, calls, want = All(written, fixed), append(calls, call{"Fixed", n}), append(want, told{number: x >> (64 - 8*n)})
			case 3:
				written, calls, want = All(written, Text(s)), append(calls, call{"Text", len(s)}), append(want, told{text: s})
			case 4:
				written, calls, want = All(written, []byte(s)), append(calls, call{"Take", len(s)}), append(want, told{text: s})
			}
		}
		cur := New(written)
		for i, by := range calls {
			if got := by.of(cur); got != want[i] {
				t.Fatalf("%s(%d) is %v, not %v, error %d", by.name, by.n, got, want[i], cur.Err())
			}
		}
		if cur.End() != api.OK || cur.At() != len(written) {
			t.Fatalf("error %d at %d of %d", cur.Err(), cur.At(), len(written))
		}
	}
}
