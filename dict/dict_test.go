package dict

import (
	"bytes"
	"math"
	"math/rand"
	"slices"
	"strings"
	"testing"

	"firkin/api"
)

// chance tells numbers that look like chance, the same in each run.
func chance(seed int64) *rand.Rand { return rand.New(rand.NewSource(seed)) }

// plainNum tells a number's bytes, as chapter 3 tells them.
func plainNum(x int) []byte {
	var b []byte
	for x > 127 {
		b = append(b, byte(x%128)+128)
		x /= 128
	}
	return append(b, byte(x))
}

// plainText tells a text's bytes, as chapter 3 tells them.
func plainText(s string) []byte { return append(plainNum(len(s)), s...) }

// alike tells how many bytes at the beginning of a text are those of another one.
func alike(a, b string) int {
	for n := len(a); ; n-- {
		if strings.HasPrefix(b, a[:n]) {
			return n
		}
	}
}

// of tells the dictionary of so many texts, with these buckets.
func of(n int, buckets ...string) []byte {
	b := plainNum(n)
	for _, bucket := range buckets {
		b = append(b, plainNum(len(bucket))...)
	}
	return append(b, strings.Join(buckets, "")...)
}

// plainWrite tells the dictionary of texts, as the chapter's words tell it.
func plainWrite(size int, texts []string) []byte {
	var buckets []string
	for i, text := range texts {
		if i%size == 0 {
			buckets = append(buckets, string(plainText(text)))
			continue
		}
		n := alike(texts[i-1], text)
		buckets[len(buckets)-1] += string(plainNum(n)) + string(plainText(text[n:]))
	}
	return of(len(texts), buckets...)
}

// plain takes numbers and texts of bytes, as the chapters' words tell it; an error stays.
type plain struct {
	b []byte
	e api.Errno
}

// number takes a number of at most so much.
func (p *plain) number(most int) int {
	if p.e != api.OK {
		return 0
	}
	for i := range p.b {
		if i == 9 && p.b[i] != 1 || i > 0 && p.b[i] == 0 {
			p.e = api.ErrForm
			return 0
		}
		if p.b[i] >= 128 {
			continue
		}
		x := 0.0 // far above each most, a float is as good as a number
		for k := i; k >= 0; k-- {
			x = 128*x + float64(p.b[k]%128)
		}
		if x > float64(most) {
			p.e = api.ErrLimit
			return 0
		}
		p.b = p.b[i+1:]
		return int(x)
	}
	p.e = api.ErrShort
	return 0
}

// take takes n bytes.
func (p *plain) take(n int) []byte {
	if p.e == api.OK && n > len(p.b) {
		p.e = api.ErrShort
	}
	if p.e != api.OK {
		return nil
	}
	b := p.b[:n]
	p.b = p.b[n:]
	return b
}

// wrong gives the error of a form, if there is none so far.
func (p *plain) wrong(is bool) {
	if is && p.e == api.OK {
		p.e = api.ErrForm
	}
}

// plainRead tells the texts of the dictionary that bytes begin with, and how many they are, as the chapter's words tell it.
func plainRead(size int, b []byte) ([]string, int, api.Errno) {
	if size < 1 || size > 64 {
		return nil, 0, api.ErrArg
	}
	p := &plain{b: b}
	n := p.number(1 << 20)
	var longs []int
	for i := 0; i < n && p.e == api.OK; i += size {
		longs = append(longs, p.number(2000))
	}
	var texts []string
	for _, long := range longs {
		in := &plain{b: p.take(long), e: p.e}
		for i := 0; i < size && len(texts) < n && in.e == api.OK; i++ {
			ahead, have := "", 0
			if len(texts) > 0 {
				ahead = texts[len(texts)-1]
			}
			if i > 0 {
				have = in.number(len(ahead))
			}
			behind := string(in.take(in.number(25)))
			text := ahead[:have] + behind
			in.wrong(behind == "")
			in.wrong(len(text) > 25)
			in.wrong(bytes.Compare([]byte(text), []byte(ahead)) <= 0)
			in.wrong(i > 0 && alike(ahead, text) > have)
			texts = append(texts, text)
		}
		in.wrong(len(in.b) > 0)
		p.e = in.e
		if p.e != api.OK {
			break
		}
	}
	if p.e != api.OK {
		return nil, 0, p.e
	}
	return texts, len(b) - len(p.b), api.OK
}

// checkRead holds Read against the plain one, and tells the error; what is read is what is written.
func checkRead(t testing.TB, size int, b []byte) api.Errno {
	t.Helper()
	d, n, e := Read(size, b)
	texts, long, want := plainRead(size, b)
	if e != want || n != long || (d == nil) != (e != api.OK) || !slices.Equal(d.All(), texts) {
		t.Fatalf("buckets of %d, %q: %q, %d, error %d, not %q, %d, error %d", size, b[:min(len(b), 100)], d.All(), n, e, texts, long, want)
	}
	if e != api.OK {
		return e
	}
	if again, e := Write(size, texts...); e != api.OK || !bytes.Equal(again, b[:n]) {
		t.Fatalf("buckets of %d, %q is read, but %q written, error %d", size, b[:n], again, e)
	}
	return api.OK
}

// sizes are sizes of buckets, at the edges and between them.
var sizes = []int{1, 2, 3, 5, 16, 63, 64}

// wrongSizes are sizes that may not be.
var wrongSizes = []int{math.MinInt, -1 << 32, -64, -2, -1, 0, 65, 66, 128, 256, 257, 1 << 32, 1<<32 + 1, math.MaxInt}

// someText tells a text of 1 to 25 bytes: of few letters, of many, or of any bytes.
func someText(r *rand.Rand) string {
	b := make([]byte, 1+r.Intn([]int{2, 4, 8, 25}[r.Intn(4)]))
	letters := []int{2, 3, 26}[r.Intn(3)]
	for i := range b {
		b[i] = 'a' + byte(r.Intn(letters))
		if r.Intn(20) == 0 {
			b[i] = byte(r.Intn(256))
		}
	}
	return string(b)
}

// someRow tells a row of at most n texts; many of them begin as another one does.
func someRow(r *rand.Rand, n int) []string {
	var l []string
	for range r.Intn(n + 1) {
		text := someText(r)
		if len(l) > 0 && r.Intn(3) == 0 {
			text = l[r.Intn(len(l))] + text
		}
		l = append(l, text[:min(len(text), 25)])
	}
	slices.Sort(l)
	return slices.Compact(l)
}

// smallRows tells all rows of the texts of at most two of three bytes.
func smallRows() [][]string {
	all := []string{"\x00", "\x00\x00", "\x00a", "\x00\xff", "a", "a\x00", "aa", "a\xff", "\xff", "\xff\x00", "\xffa", "\xff\xff"}
	var out [][]string
	for which := range 1 << len(all) {
		var l []string
		for i, text := range all {
			if which>>i&1 == 1 {
				l = append(l, text)
			}
		}
		out = append(out, l)
	}
	return out
}

// tower tells texts each of which is the one ahead with a letter behind.
func tower(letter string) []string {
	var l []string
	for n := range 25 {
		l = append(l, strings.Repeat(letter, n+1))
	}
	return l
}

// numbered tells n texts of four letters, rising.
func numbered(n int) []string {
	l := make([]string, n)
	for i := range l {
		l[i] = string([]byte{'A' + byte(i>>15), 'A' + byte(i>>10&31), 'A' + byte(i>>5&31), 'A' + byte(i&31)})
	}
	return l
}

// greatest tells n texts of 25 bytes that begin with unlike bytes, so that their buckets are as long as may be.
func greatest(n int) []string {
	var l []string
	for i := range n {
		l = append(l, string([]byte{byte(i)})+strings.Repeat("x", 24))
	}
	return l
}

// edgeRows tells rows at the edges: none, one, the longest texts, texts that begin the others, and as many as some buckets have, one fewer and one more.
func edgeRows() [][]string {
	x24 := strings.Repeat("x", 24)
	out := [][]string{nil, {"\x00"}, {"\xff"}, {"disk", "disks", "full"}, {x24 + "x"}, {x24, x24 + "x", x24 + "y"}, {x24 + "\x00", x24 + "\xff"}, tower("a"), tower("\x00"), tower("\xff"), slices.Concat(tower("a"), tower("b")), greatest(64), greatest(256), numbered(1), numbered(20000)}
	for _, size := range sizes[1:] {
		for _, n := range []int{size - 1, size, size + 1, 2*size - 1, 2 * size, 2*size + 1} {
			out = append(out, numbered(n))
		}
	}
	return out
}

// rows tells rows at the edges, and of chance.
func rows() [][]string {
	out := edgeRows()
	r := chance(1)
	for range 300 {
		out = append(out, someRow(r, 4), someRow(r, 40), someRow(r, 300))
	}
	return out
}

// P16.1

func TestWriteExample(t *testing.T) {
	want := []byte{3, 8, 5, 4, 'd', 'i', 's', 'k', 4, 1, 's', 4, 'f', 'u', 'l', 'l'}
	if b, e := Write(2, "disk", "disks", "full"); e != api.OK || !bytes.Equal(b, want) {
		t.Errorf("% x, error %d", b, e)
	}
}

func TestWriteByHand(t *testing.T) {
	x24, x25 := strings.Repeat("x", 24), strings.Repeat("x", 25)
	for _, x := range []struct {
		size  int
		texts []string
		b     string
	}{
		{1, nil, "\x00"},
		{64, nil, "\x00"},
		{1, []string{"a"}, "\x01\x02\x01a"},
		{64, []string{"a"}, "\x01\x02\x01a"},
		{1, []string{"a", "ab"}, "\x02\x02\x03\x01a\x02ab"},
		{2, []string{"a", "ab"}, "\x02\x05\x01a\x01\x01b"},
		{64, []string{"a", "ab"}, "\x02\x05\x01a\x01\x01b"},
		{64, []string{"a", "b"}, "\x02\x05\x01a\x00\x01b"},
		{2, []string{"ab", "abc", "abd", "b"}, "\x04\x06\x07\x02ab\x02\x01c\x03abd\x00\x01b"},
		{3, []string{"ab", "abc", "abd", "b"}, "\x04\x09\x02\x02ab\x02\x01c\x02\x01d\x01b"},
		{4, []string{"ab", "abc", "abd", "b"}, "\x04\x0c\x02ab\x02\x01c\x02\x01d\x00\x01b"},
		{2, []string{"a\x00", "a\xff"}, "\x02\x06\x02a\x00\x01\x01\xff"},
		{2, []string{"abc", "abdbc"}, "\x02\x09\x03abc\x02\x03dbc"},
		{2, []string{"\x00", "\x00\x00", "\xff"}, "\x03\x05\x02\x01\x00\x01\x01\x00\x01\xff"},
		{1, []string{x25}, "\x01\x1a\x19" + x25},
		{2, []string{x24, x25}, "\x02\x1c\x18" + x24 + "\x18\x01x"},
		{2, []string{"a" + x24, "b" + x24}, "\x02\x35\x19a" + x24 + "\x00\x19b" + x24},
		{5, greatest(5), "\x05\x86\x01\x19\x00" + x24 + "\x00\x19\x01" + x24 + "\x00\x19\x02" + x24 + "\x00\x19\x03" + x24 + "\x00\x19\x04" + x24},
		{64, tower("x")[:3], "\x03\x08\x01x\x01\x01x\x02\x01x"},
	} {
		if b, e := Write(x.size, x.texts...); e != api.OK || string(b) != x.b {
			t.Errorf("buckets of %d, %q: %q, error %d, not %q", x.size, x.texts, b, e, x.b)
		}
	}
}

func TestWriteRows(t *testing.T) {
	for _, l := range slices.Concat(smallRows(), rows()) {
		for _, size := range sizes {
			if b, e := Write(size, l...); e != api.OK || !bytes.Equal(b, plainWrite(size, l)) {
				t.Fatalf("buckets of %d, %q: %q, error %d", size, l[:min(len(l), 20)], b[:min(len(b), 100)], e)
			}
		}
	}
}

// wantRefused sees that Write tells nothing but ErrArg.
func wantRefused(t *testing.T, size int, texts ...string) {
	t.Helper()
	if b, e := Write(size, texts...); e != api.ErrArg || len(b) != 0 {
		t.Errorf("buckets of %d, %q: % x, error %d", size, texts[:min(len(texts), 10)], b[:min(len(b), 40)], e)
	}
}

func TestWriteRefusesSizes(t *testing.T) {
	for _, size := range wrongSizes {
		for _, l := range [][]string{nil, {"a"}, {"a", "b"}, {"b", "a"}, numbered(100)} {
			wantRefused(t, size, l...)
		}
	}
}

func TestWriteRefusesTexts(t *testing.T) {
	x26 := strings.Repeat("x", 26)
	for _, size := range sizes {
		for _, l := range [][]string{
			{""}, {"", "a"}, {"a", ""}, {"a", "", "b"}, {"", ""}, {"a", "a"}, {"b", "a"}, {"ab", "a"}, {"aa", "a", "b"}, {"a", "b", "b"}, {"a", "c", "b"}, {"b", "B"}, {"\xff", "a"}, {"\x80", "\x7f"}, {"a\x00", "a"},
			{x26}, {"a", x26}, {x26, "y"}, {x26[:25], x26}, {strings.Repeat("x", 1<<16)}, {"a", strings.Repeat("x", 256+1)},
		} {
			wantRefused(t, size, l...)
		}
	}
}

// TestWriteRefusesChance: each text that is put in place of another one, so that it is no row any more, is refused.
func TestWriteRefusesChance(t *testing.T) {
	r := chance(2)
	for _, l := range rows() {
		if len(l) < 2 {
			continue
		}
		i := 1 + r.Intn(len(l)-1)
		for _, wrong := range []string{"", l[i-1], l[i-1][:len(l[i-1])-1], l[0], l[i] + strings.Repeat("x", 26-len(l[i]))} {
			texts := slices.Clone(l)
			texts[i] = wrong
			wantRefused(t, 1+r.Intn(64), texts...)
		}
	}
}

// P16.2

func TestReadExample(t *testing.T) {
	d, n, e := Read(2, []byte("\x03\x08\x05\x04disk\x04\x01s\x04full"))
	if e != api.OK || n != 16 || !slices.Equal(d.All(), []string{"disk", "disks", "full"}) {
		t.Errorf("%q, %d, error %d", d.All(), n, e)
	}
}

func TestReadEmpty(t *testing.T) {
	for _, size := range sizes {
		for _, behind := range []string{"", "\x00", "\xff\xff", "\x02\x01a"} {
			d, n, e := Read(size, []byte("\x00"+behind))
			if e != api.OK || n != 1 || d == nil || d.Len() != 0 || len(d.All()) != 0 {
				t.Errorf("buckets of %d: %q, %d, error %d", size, d.All(), n, e)
			}
		}
	}
}

func TestReadRefuses(t *testing.T) {
	x24, x25 := strings.Repeat("x", 24), strings.Repeat("x", 25)
	many, most := strings.Repeat("\xff", 9), strings.Repeat("\xff", 9)+"\x01"
	far := strings.Repeat("a", 5000)
	for _, x := range []struct {
		what string
		size int
		b    string
		e    api.Errno
	}{
		{"a size of 0, and nothing", 0, "", api.ErrArg},
		{"a size above the most, and no number", 65, "\x80\x00", api.ErrArg},

		{"nothing", 2, "", api.ErrShort},
		{"a count that goes on", 2, "\x81", api.ErrShort},
		{"a great count that goes on", 2, many, api.ErrShort},
		{"a count of two bytes that is 1", 2, "\x81\x00\x02\x01a", api.ErrForm},
		{"a count whose tenth byte is 2", 2, many + "\x02", api.ErrForm},
		{"a count whose tenth byte is 0", 2, many + "\x00", api.ErrForm},
		{"a count whose tenth byte goes on", 2, many + "\xff\x01", api.ErrForm},
		{"the greatest count", 2, most, api.ErrLimit},
		{"a count of 2^63", 2, strings.Repeat("\x80", 9) + "\x01", api.ErrLimit},
		{"a count that is 1 in its lowest 32 bits", 2, "\x81\x80\x80\x80\x10\x02\x01a", api.ErrLimit},
		{"one more than the greatest count", 2, "\x81\x80\x40", api.ErrLimit},
		{"the greatest count, and nothing", 2, "\x80\x80\x40", api.ErrShort},

		{"no bucket's bytes", 2, "\x01", api.ErrShort},
		{"one bucket's of two", 2, "\x03\x05", api.ErrShort},
		{"a bucket's that go on", 2, "\x01\x82", api.ErrShort},
		{"a second bucket's that go on", 1, "\x02\x02\x82", api.ErrShort},
		{"a bucket's of two bytes", 2, "\x01\x82\x00\x01a", api.ErrForm},
		{"a bucket's whose tenth byte is 2", 2, "\x01" + many + "\x02", api.ErrForm},
		{"the greatest bucket's", 2, "\x01" + most, api.ErrLimit},
		{"a bucket's that is 2 in its lowest 32 bits", 2, "\x01\x82\x80\x80\x80\x10\x01a", api.ErrLimit},
		{"a bucket of 2001 bytes", 2, "\x01\xd1\x0f", api.ErrLimit},
		{"a bucket of 2001 bytes, all there", 2, "\x01\xd1\x0f\x01" + far, api.ErrLimit},
		{"a second bucket of 2001 bytes, the first one not there", 1, "\x02\x02\xd1\x0f", api.ErrLimit},
		{"a second bucket of 2001 bytes, the first one of no form", 1, "\x02\x82\x00\xd1\x0f", api.ErrForm},
		{"a first bucket of 2001 bytes, the second one of no form", 1, "\x02\xd1\x0f\x82\x00", api.ErrLimit},
		{"a bucket of 2000 bytes, not there", 2, "\x01\xd0\x0f", api.ErrShort},
		{"a bucket of 2000 bytes, one not there", 2, "\x01\xd0\x0f\x00" + far[:1998], api.ErrShort},
		{"a bucket of 2000 bytes, all there", 2, "\x01\xd0\x0f\x01" + far, api.ErrForm},
		{"a bucket of 2000 bytes, with nothing for a second text", 2, "\x02\xd0\x0f\x01a\x00\x05" + far, api.ErrForm},

		{"a bucket that isn't there", 2, "\x01\x02", api.ErrShort},
		{"a bucket that isn't there whole", 2, "\x01\x03\x02a", api.ErrShort},
		{"a bucket that isn't there whole, with a fault in it", 2, "\x01\x03\x00a", api.ErrShort},
		{"a second bucket that isn't there", 1, "\x02\x02\x02\x01a", api.ErrShort},
		{"a fault in the first bucket, the second one not there", 1, "\x02\x02\x02\x00a", api.ErrForm},
		{"a long text in the first bucket, the second one not there", 1, "\x02\x02\x02\x1aa", api.ErrLimit},

		{"a bucket of no bytes", 2, "\x01\x00", api.ErrShort},
		{"a bucket of no bytes, with some behind", 2, "\x01\x00\x01a", api.ErrShort},
		{"a first text that goes on behind its bucket", 2, "\x01\x02\x02ab", api.ErrShort},
		{"a first text's count that goes on behind its bucket", 2, "\x01\x01\x81\x01", api.ErrShort},
		{"a first text's count of two bytes", 2, "\x01\x03\x81\x00a", api.ErrForm},
		{"a first text's count whose tenth byte is 2", 2, "\x01\x0a" + many + "\x02", api.ErrForm},
		{"the greatest first text's count", 2, "\x01\x0a" + most, api.ErrLimit},
		{"a first text of 26 bytes", 2, "\x01\x1b\x1ay" + x25, api.ErrLimit},
		{"a first text of 26 bytes, not there", 2, "\x01\x01\x1a", api.ErrLimit},
		{"a first text of 25 bytes, not there", 2, "\x01\x01\x19", api.ErrShort},
		{"a first text of no bytes", 2, "\x01\x01\x00", api.ErrForm},
		{"a first text of no bytes, with some behind", 2, "\x01\x03\x00\x01a", api.ErrForm},
		{"a second bucket's first text of no bytes", 1, "\x02\x02\x01\x01a\x00", api.ErrForm},
		{"a second bucket's first text as the one ahead", 1, "\x02\x02\x02\x01a\x01a", api.ErrForm},
		{"a second bucket's first text below the one ahead", 1, "\x02\x02\x02\x01b\x01a", api.ErrForm},
		{"a second bucket's first text between those of the first one", 2, "\x03\x05\x02\x01a\x00\x01c\x01b", api.ErrForm},
		{"a second bucket's first text that begins the one ahead", 1, "\x02\x03\x02\x02ab\x01a", api.ErrForm},
		{"a second bucket's first text with a number of what is the same", 1, "\x02\x02\x03\x01a\x01\x01b", api.ErrForm},

		{"no number of what is the same", 2, "\x02\x02\x01a", api.ErrShort},
		{"no number of what is the same, with some behind the bucket", 2, "\x02\x02\x01a\x00\x01b", api.ErrShort},
		{"a number of what is the same that goes on", 2, "\x02\x03\x01a\x80", api.ErrShort},
		{"a number of what is the same of two bytes", 2, "\x02\x06\x01a\x80\x00\x01b", api.ErrForm},
		{"a number of what is the same whose tenth byte is 2", 2, "\x02\x0c\x01a" + many + "\x02", api.ErrForm},
		{"the greatest number of what is the same", 2, "\x02\x0c\x01a" + most, api.ErrLimit},
		{"one more the same than the text ahead has", 2, "\x02\x05\x01a\x02\x01b", api.ErrLimit},
		{"one more the same than the text ahead has, and nothing behind", 2, "\x02\x03\x01a\x02", api.ErrLimit},
		{"one more the same than a further text ahead has", 3, "\x03\x09\x02ab\x00\x01b\x02\x01c", api.ErrLimit},
		{"more the same than the text ahead has, though as many as another", 3, "\x03\x0a\x03abc\x00\x01b\x02\x01c", api.ErrLimit},
		{"as many the same as the text ahead has, and nothing behind", 2, "\x02\x03\x01a\x01", api.ErrShort},
		{"as many the same as the text ahead has, and none more", 2, "\x02\x04\x01a\x01\x00", api.ErrForm},
		{"fewer the same, and none more", 2, "\x02\x05\x02ab\x01\x00", api.ErrForm},
		{"a further text that goes on behind its bucket", 2, "\x02\x05\x01a\x00\x02bc", api.ErrShort},
		{"a further text's count of two bytes", 2, "\x02\x06\x01a\x00\x81\x00b", api.ErrForm},
		{"a further text of 26 bytes", 2, "\x02\x1e\x01a\x00\x1ay" + x25, api.ErrLimit},
		{"a further text of 26 bytes, not there", 2, "\x02\x04\x01a\x00\x1a", api.ErrLimit},
		{"26 bytes with those that are the same", 2, "\x02\x1d\x01a\x01\x19" + x25, api.ErrForm},
		{"26 bytes with 25 that are the same", 2, "\x02\x1d\x19" + x25 + "\x19\x01x", api.ErrForm},
		{"26 bytes with those that are the same, and not there", 2, "\x02\x1c\x01a\x01\x19" + x24, api.ErrShort},
		{"a further text below the one ahead", 2, "\x02\x05\x01b\x00\x01a", api.ErrForm},
		{"a further text below the one ahead, with some the same", 2, "\x02\x06\x02ab\x01\x01a", api.ErrForm},
		{"a further text as the one ahead", 2, "\x02\x05\x01a\x00\x01a", api.ErrForm},
		{"a further text that begins the one ahead", 2, "\x02\x06\x02ab\x00\x01a", api.ErrForm},
		{"one more the same than the number says", 2, "\x02\x06\x01a\x00\x02ab", api.ErrForm},
		{"one more the same than the number says, the second one", 2, "\x02\x08\x03abc\x01\x02bd", api.ErrForm},
		{"a third text below the second one, above the first one", 3, "\x03\x08\x01a\x00\x01c\x00\x01b", api.ErrForm},
		{"a third text with a fault, behind a second one with another", 3, "\x03\x08\x01b\x00\x01a\x09\x01b", api.ErrForm},

		{"a byte left in a bucket", 2, "\x01\x03\x01ab", api.ErrForm},
		{"a text left in a bucket", 2, "\x01\x05\x01a\x00\x01b", api.ErrForm},
		{"a byte left in the first of two buckets", 1, "\x02\x03\x02\x01a\x00\x01b", api.ErrForm},
		{"a byte left in the first of two buckets, the second one not there", 1, "\x02\x03\x02\x01a\x00", api.ErrForm},
		{"a text left in a bucket that is as long as may be", 1, "\x02\x05\x02\x01a\x00\x01b\x01c", api.ErrForm},
		{"a byte left in the last bucket", 2, "\x03\x05\x03\x01a\x00\x01b\x01c\x00", api.ErrForm},
	} {
		d, n, e := Read(x.size, []byte(x.b))
		if e != x.e || n != 0 || d != nil {
			t.Errorf("%s: %q, %d, error %d, not %d", x.what, d.All(), n, e, x.e)
		}
		checkRead(t, x.size, []byte(x.b))
	}
}

func TestReadWrongSizes(t *testing.T) {
	for _, size := range wrongSizes {
		for _, b := range []string{"", "\x00", "\x01\x02\x01a", "\x80\x00", "\x81\x80\x40"} {
			if d, n, e := Read(size, []byte(b)); e != api.ErrArg || n != 0 || d != nil {
				t.Errorf("buckets of %d, %q: %q, %d, error %d", size, b, d.All(), n, e)
			}
		}
	}
}

// each hands on all rows of n of these bytes, behind the ones ahead.
func each(n int, of string, ahead []byte, hand func(b []byte)) {
	if n == 0 {
		hand(ahead)
		return
	}
	for i := range len(of) {
		each(n-1, of, append(ahead, of[i]), hand)
	}
}

// TestReadSmall: all rows of up to two bytes, rows of few bytes, and all that may be behind how many bytes the buckets have.
func TestReadSmall(t *testing.T) {
	var all []byte
	for c := range 256 {
		all = append(all, byte(c))
	}
	for _, size := range []int{1, 2, 64} {
		check := func(b []byte) { checkRead(t, size, b) }
		for n := range 3 {
			each(n, string(all), nil, check)
		}
		for n := 3; n < 7; n++ {
			each(n, "\x00\x01\x02\x03\x04a", nil, check)
		}
		for _, head := range []string{"\x02\x05", "\x02\x06", "\x02\x03\x02", "\x02\x02\x03", "\x03\x05\x02", "\x03\x08"} {
			for n := range 7 {
				each(n, "\x00\x01\x02ab\x80", []byte(head), check)
			}
		}
	}
}

// TestReadCut: of each dictionary each cut one.
func TestReadCut(t *testing.T) {
	for _, l := range rows() {
		for _, size := range []int{1, 2, 64} {
			b := plainWrite(size, l)
			for n := range b {
				if n > 60 && n < len(b)-60 {
					continue
				}
				if d, long, e := Read(size, b[:n]); e != api.ErrShort || long != 0 || d != nil {
					t.Fatalf("%d of %d bytes: %d, error %d", n, len(b), long, e)
				}
			}
		}
	}
}

// TestReadChance: dictionaries whose bytes were changed, taken out or put in, with others behind, or not; and read with other sizes.
func TestReadChance(t *testing.T) {
	r := chance(3)
	seen := map[api.Errno]int{}
	for range 60000 {
		size := 1 + r.Intn([]int{2, 4, 64}[r.Intn(3)])
		b := plainWrite(size, someRow(r, 12))
		for range r.Intn(3) {
			i := r.Intn(len(b))
			switch r.Intn(5) {
			case 0:
				b = slices.Delete(b, i, i+1)
			case 1:
				b = slices.Insert(b, i, byte(r.Intn(4)))
			case 2:
				b[i] ^= 1 << r.Intn(8)
			case 3:
				b[i]++
			case 4:
				b[i]--
			}
			if len(b) == 0 {
				break
			}
		}
		b = append(b, make([]byte, r.Intn(3))...)
		seen[checkRead(t, size, b)]++
		seen[checkRead(t, 1+r.Intn(5), b)]++
	}
	for _, e := range []api.Errno{api.OK, api.ErrShort, api.ErrForm, api.ErrLimit} {
		if seen[e] < 1000 {
			t.Error("error", e, "is seldom seen:", seen)
		}
	}
}

// wrote is a text as it may stand in a bucket.
type wrote struct {
	same   int
	behind string
}

// TestReadWrote: buckets of all pairs and threes of few texts, each with how many bytes are the same as it may be told wrong, too.
func TestReadWrote(t *testing.T) {
	var firsts []string
	var further []wrote
	for _, text := range []string{"", "a", "b", "aa", "ab", "ba", "bb", "aab", strings.Repeat("a", 25), strings.Repeat("a", 24)} {
		firsts = append(firsts, string(plainText(text)))
		for n := range 4 {
			further = append(further, wrote{n, text})
		}
	}
	seen := map[api.Errno]int{}
	for _, first := range firsts {
		for _, x := range further {
			two := first + string(plainNum(x.same)) + string(plainText(x.behind))
			seen[checkRead(t, 2, of(2, two))]++
			seen[checkRead(t, 3, of(2, two))]++
			for _, y := range further {
				seen[checkRead(t, 3, of(3, two+string(plainNum(y.same))+string(plainText(y.behind))))]++
			}
			for _, text := range firsts {
				seen[checkRead(t, 2, of(3, two, text))]++
			}
		}
	}
	for _, e := range []api.Errno{api.OK, api.ErrForm, api.ErrLimit} {
		if seen[e] < 100 {
			t.Error("error", e, "is seldom seen:", seen)
		}
	}
}

// TestReadOneBehindTheOther: many dictionaries in a row of bytes; each is read of all that stand there still.
func TestReadOneBehindTheOther(t *testing.T) {
	r := chance(5)
	var all []byte
	var want [][]string
	for len(all) < 1<<21 {
		l := someRow(r, 5)
		want = append(want, l)
		all = append(all, plainWrite(2, l)...)
	}
	for i, l := range want {
		d, n, e := Read(2, all)
		if e != api.OK || !slices.Equal(d.All(), l) {
			t.Fatalf("dictionary %d: %q, error %d, not %q", i, d.All(), e, l)
		}
		all = all[n:]
	}
	if len(all) != 0 {
		t.Error(len(all), "bytes are left")
	}
}

// TestMost: as many texts as may be are written, read and found; one more is refused.
func TestMost(t *testing.T) {
	most := numbered(1<<20 + 1)
	l := most[:1<<20]
	for _, size := range []int{1, 64} {
		wantRefused(t, size, most...)
		b, e := Write(size, l...)
		if e != api.OK || !bytes.Equal(b, plainWrite(size, l)) {
			t.Fatalf("buckets of %d: %d bytes, error %d", size, len(b), e)
		}
		d, n, e := Read(size, b)
		if e != api.OK || n != len(b) || !slices.Equal(d.All(), l) {
			t.Fatalf("buckets of %d: %d of %d bytes, error %d", size, n, len(b), e)
		}
		for i, text := range l {
			if at, ok := d.Find(text); at != i || !ok {
				t.Fatalf("%q is found at %d, %v, not at %d", text, at, ok, i)
			}
		}
		if from, to := d.Range("BC"); from != 1<<15+2<<10 || to != 1<<15+3<<10 {
			t.Errorf("%d to %d", from, to)
		}
		if d, n, e := Read(size, plainWrite(size, most)); e != api.ErrLimit || n != 0 || d != nil {
			t.Errorf("one more is read: %d, error %d", n, e)
		}
	}
}

// P16.3

// plainRange tells the places of the texts that begin with s.
func plainRange(texts []string, s string) (int, int) {
	from, to := 0, 0
	for i, text := range texts {
		if strings.HasPrefix(text, s) {
			if to == 0 {
				from = i
			}
			to = i + 1
		}
	}
	return from, to
}

// checkSeek sees that a dictionary of these texts finds s, and what begins with it, as they do.
func checkSeek(t *testing.T, d *Dict, texts []string, s string) {
	t.Helper()
	place := slices.Index(texts, s)
	if i, ok := d.Find(s); i != max(place, 0) || ok != (place >= 0) {
		t.Fatalf("%q is found at %d, %v of %q", s, i, ok, texts[:min(len(texts), 20)])
	}
	from, to := d.Range(s)
	if wantFrom, wantTo := plainRange(texts, s); from != wantFrom || to != wantTo {
		t.Fatalf("%q begins those from %d to %d of %q, not from %d to %d", s, from, to, texts[:min(len(texts), 20)], wantFrom, wantTo)
	}
}

// checkDict sees that a dictionary has just these texts.
func checkDict(t *testing.T, d *Dict, texts []string) {
	t.Helper()
	if d.Len() != len(texts) || !slices.Equal(d.All(), texts) {
		t.Fatalf("%d texts, %q, not %q", d.Len(), d.All(), texts)
	}
	for i, text := range texts {
		if s, ok := d.At(i); s != text || !ok {
			t.Fatalf("At(%d) is %q, %v, not %q", i, s, ok, text)
		}
		if at, ok := d.Find(text); at != i || !ok {
			t.Fatalf("%q is found at %d, %v, not at %d", text, at, ok, i)
		}
	}
	for _, i := range []int{math.MinInt, -1 << 32, -len(texts) - 1, -2, -1, len(texts), len(texts) + 1, 2*len(texts) + 1, 1 << 32, math.MaxInt} {
		if s, ok := d.At(i); s != "" || ok {
			t.Fatalf("At(%d) is %q, %v of %d", i, s, ok, len(texts))
		}
	}
}

// dictOf tells the dictionary of a row.
func dictOf(t *testing.T, size int, texts []string) *Dict {
	t.Helper()
	d, _, e := Read(size, plainWrite(size, texts))
	if e != api.OK {
		t.Fatalf("%d texts in buckets of %d: error %d", len(texts), size, e)
	}
	return d
}

// near tells texts near another one: what it begins with, and what is just below and above.
func near(s string) []string {
	out := []string{s, s + "\x00", s + "\xff", s + "a"}
	for n := range s {
		out = append(out, s[:n], s[:n]+"\x00", s[:n]+"\xff", s[:n]+string([]byte{s[n] + 1}), s[:n]+string([]byte{s[n] - 1}), s[:n]+string([]byte{s[n] - 1})+"\xff")
	}
	return out
}

// others are texts that no row has, and some that few have.
var others = []string{"", "\x00", "\x00\x00", "\xff", "\xff\xff", "a", "zz", "@", strings.Repeat("x", 25), strings.Repeat("x", 26), strings.Repeat("\xff", 26), strings.Repeat("a", 1<<16)}

func TestDict(t *testing.T) {
	for _, l := range rows() {
		for _, size := range sizes {
			d := dictOf(t, size, l)
			checkDict(t, d, l)
			for _, s := range others {
				checkSeek(t, d, l, s)
			}
		}
	}
}

func TestSeekSmall(t *testing.T) {
	var all []string
	for n := range 4 {
		each(n, "\x00a\xff", nil, func(b []byte) { all = append(all, string(b)) })
	}
	for _, l := range smallRows() {
		for _, size := range []int{1, 2, 3, 64} {
			d := dictOf(t, size, l)
			for _, s := range all {
				checkSeek(t, d, l, s)
			}
		}
	}
}

func TestSeekChance(t *testing.T) {
	r := chance(6)
	for _, l := range rows() {
		d := dictOf(t, 1+r.Intn(64), l)
		for range min(len(l), 5) {
			for _, s := range near(l[r.Intn(len(l))]) {
				checkSeek(t, d, l, s)
			}
		}
		for range 10 {
			checkSeek(t, d, l, someText(r))
		}
	}
}

func TestRangeByHand(t *testing.T) {
	l := []string{"@db", "a", "ab", "abc", "abd", "ac", "b\xff", "b\xff\xff", "c", "\xff", "\xff\xff"}
	for s, want := range map[string][2]int{
		"": {0, 11}, "@": {0, 1}, "a": {1, 6}, "ab": {2, 5}, "abc": {3, 4}, "abcd": {0, 0}, "abe": {0, 0}, "ad": {0, 0}, "b": {6, 8}, "b\xff": {6, 8}, "b\xff\xff": {7, 8}, "b\xff\xff\xff": {0, 0}, "c": {8, 9}, "d": {0, 0}, "\xff": {9, 11}, "\xff\xff": {10, 11}, "\xff\xff\xff": {0, 0}, "\x00": {0, 0}, "A": {0, 0},
	} {
		for _, size := range sizes {
			if from, to := dictOf(t, size, l).Range(s); from != want[0] || to != want[1] {
				t.Errorf("%q, buckets of %d: %d to %d, not %d", s, size, from, to, want)
			}
		}
	}
}

// P16.4

func TestNilDict(t *testing.T) {
	for _, d := range []*Dict{nil, new(Dict), dictOf(t, 1, nil), dictOf(t, 64, nil)} {
		checkDict(t, d, nil)
		for _, s := range others {
			checkSeek(t, d, nil, s)
		}
		for i := range 3 {
			if s, ok := d.At(i); s != "" || ok {
				t.Errorf("At(%d) is %q, %v", i, s, ok)
			}
		}
	}
}

// P16.5

func TestThereAndBack(t *testing.T) {
	for _, l := range slices.Concat(smallRows(), rows()) {
		for _, size := range []int{1, 2, 64} {
			b, e := Write(size, l...)
			if e != api.OK {
				t.Fatalf("%d texts in buckets of %d: error %d", len(l), size, e)
			}
			for _, behind := range [][]byte{nil, {0}, {255, 1, 2}, b} {
				d, n, e := Read(size, slices.Concat(b, behind))
				if e != api.OK || n != len(b) || !slices.Equal(d.All(), l) {
					t.Fatalf("%d texts in buckets of %d, %d bytes behind: %d texts, %d of %d bytes, error %d", len(l), size, len(behind), d.Len(), n, len(b), e)
				}
			}
		}
	}
}

// What holds everywhere

// TestMemory: what is handed in stays, its spare room, too, and isn't kept; answers are apart.
func TestMemory(t *testing.T) {
	for _, l := range edgeRows() {
		roomy := slices.Concat(l, []string{"spare", "room"})
		before := slices.Clone(roomy)
		b, _ := Write(3, roomy[:len(l)]...)
		again, _ := Write(3, roomy[:len(l)]...)
		if !slices.Equal(roomy, before) {
			t.Fatal("Write has changed its texts")
		}
		clear(again[:cap(again)])
		clear(roomy)
		if !bytes.Equal(b, plainWrite(3, l)) {
			t.Fatal("dictionaries hang together with texts, or with others")
		}
		full := slices.Concat(b, []byte{1, 2, 3})
		behind := slices.Clone(full)
		d, _, _ := Read(3, full[:len(b)])
		other, _, _ := Read(3, full)
		if !bytes.Equal(full, behind) {
			t.Fatal("Read has changed its bytes")
		}
		clear(full)
		for _, d := range []*Dict{d, other, d} {
			told := d.All()
			if !slices.Equal(told, l) {
				t.Fatal("dictionaries hang together with bytes, or with what they told")
			}
			clear(told[:cap(told)])
			d.Find("a")
			d.Range("a")
			d.At(1)
			checkDict(t, d, l)
		}
	}
}
