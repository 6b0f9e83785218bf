package body

import (
	"bytes"
	"fmt"
	"math"
	"slices"
	"strconv"
	"strings"
	"testing"

	"firkin/api"
	"firkin/block"
	"firkin/lz"
	"firkin/post"
	"firkin/toks"
)

// small are the options of most bodies here: a block of 16 bytes, and buckets of one term.
var small = api.Opts{Block: 16, Bucket: 1}

// three is a log of two blocks, of one record and of two, by those options.
func three() []api.Record {
	return []api.Record{
		{Time: 9, Level: 1, Source: "db", Text: "disk full"},
		{Time: 7, Level: 1, Source: "web", Text: "GET /a"},
		{Time: 8, Level: 3, Text: "ok"},
	}
}

// P20.1

func TestMakeExample(t *testing.T) {
	want := "\x00\x00\x00\x00" + "\x00\x8d\xef\x02\xd2" + "\x00\x00\x04\x05" + string(plainChunk([]byte("\x00\x00\x04\x05"))[4:]) + "\x08\x00\x00\x00"
	if b, e := Make(small); e != api.OK || string(b) != want {
		t.Errorf("%q, error %d, not %q", b, e, want)
	}
}

func TestMakeByHand(t *testing.T) {
	want := strings.Join([]string{
		string(plainChunk([]byte("\x00\x0d\x0d" + "\x02db\x09disk full"))),
		string(plainChunk([]byte("\x00\x0f\x0f" + "\x03web\x06GET /a" + "\x00\x02ok"))),
		string(plainChunk([]byte("\x12\x03\x02" + "\x01\x02\x03\x01"))),
		string(plainChunk([]byte("\x07" + "\x04\x05\x02\x05\x05\x04\x03" + "\x03@db\x04@web\x01a\x04disk\x04full\x03get\x02ok" +
			"\x01\x40" + "\x01\xc0" + "\x01\xc0" + "\x01\x40" + "\x01\x40" + "\x01\xc0" + "\x01\x20"))),
		string(plainChunk([]byte("\x03\x02" + "\x01\x14" + "\x02\x16" + "\x0b\x36"))),
		"\x0c\x00\x00\x00",
	}, "")
	if b, e := Make(small, three()...); e != api.OK || string(b) != want {
		t.Errorf("%q, error %d, not %q", b, e, want)
	}
}

// TestMakeBuckets: the index has buckets of the size Bucket.
func TestMakeBuckets(t *testing.T) {
	l := []api.Record{{Text: "disk disks full"}}
	for bucket, index := range map[int]string{
		1:  "\x03\x05\x06\x05\x04disk\x05disks\x04full",
		2:  "\x03\x08\x05\x04disk\x04\x01s\x04full",
		3:  "\x03\x0e\x04disk\x04\x01s\x00\x04full",
		64: "\x03\x0e\x04disk\x04\x01s\x00\x04full",
	} {
		want := plainChunk([]byte(index + "\x01\x80\x01\x80\x01\x80"))
		if b := mustMake(t, api.Opts{Block: 16, Bucket: bucket}, l...); !bytes.Contains(b, want) {
			t.Errorf("buckets of %d: %q hasn't %q", bucket, b, want)
		}
	}
}

// TestMakePlain: blocks are squeezed where that is shorter, but not if Plain says so.
func TestMakePlain(t *testing.T) {
	l := same(20, api.Record{Source: "db", Text: "disk full, disk full"})
	raw := plainBytes(l)
	o := api.Opts{Block: 32768, Bucket: 16}
	squeezed := mustMake(t, o, l...)
	o.Plain = true
	plain := mustMake(t, o, l...)
	if way, e := block.Way(squeezed); way != 1 || e != api.OK {
		t.Errorf("the block isn't squeezed: way %d, error %d", way, e)
	}
	if way, e := block.Way(plain); way != 0 || e != api.OK {
		t.Errorf("the block is squeezed: way %d, error %d", way, e)
	}
	if !bytes.Contains(plain, raw) || bytes.Contains(squeezed, raw) || len(squeezed) >= len(plain)-len(raw)/2 {
		t.Errorf("squeezed it has %d bytes, plain %d", len(squeezed), len(plain))
	}
	if b := mustMake(t, o, three()...); !bytes.Equal(b, mustMake(t, api.Opts{Block: 32768, Bucket: 16}, three()...)) {
		t.Error("a block that would be longer is squeezed")
	}
}

// TestMakeGroups: a block has as many records as have the size Block at most, or one.
func TestMakeGroups(t *testing.T) {
	of := func(longs ...int) []api.Record { // of so many bytes each, not whole
		var l []api.Record
		for i, n := range longs {
			l = append(l, api.Record{Time: uint64(i) << 40, Level: uint8(i), Text: xs(n - 2)})
		}
		return l
	}
	for _, c := range []struct {
		size   int
		l      []api.Record
		counts []int
	}{
		{16, nil, nil},
		{16, of(2), []int{1}},
		{16, of(16), []int{1}},
		{16, of(17), []int{1}},
		{16, of(8, 8), []int{2}},
		{16, of(8, 9), []int{1, 1}},
		{17, of(8, 9), []int{2}},
		{16, of(17, 2, 2), []int{1, 2}},
		{16, of(2, 17, 2), []int{1, 1, 1}},
		{16, of(2, 2, 12, 2), []int{3, 1}},
		{16, of(2, 2, 13, 3), []int{2, 2}},
		{16, of(2, 2, 2, 2, 2, 2, 2, 2, 2), []int{8, 1}},
		{32768, of(2, 17, 90, 3), []int{4}},
	} {
		b := mustOpen(t, api.Opts{Block: c.size, Bucket: 1}, mustMake(t, api.Opts{Block: c.size, Bucket: 1}, c.l...))
		if !slices.Equal(b.Blocks(), c.counts) {
			t.Errorf("blocks of %d bytes: %v, not %v", c.size, b.Blocks(), c.counts)
		}
		wantMake(t, api.Opts{Block: c.size, Bucket: 1}, c.l...)
	}
}

func TestMakeAll(t *testing.T) {
	r := chance(1)
	for range 1500 {
		wantMake(t, someOpts(r), someLog(r, 12, 12)...)
	}
	for range 100 {
		wantMake(t, someOpts(r), someLog(r, 60, 200)...)
	}
}

// edge tells options that may be, but for a change.
func edge(change func(o *api.Opts)) api.Opts {
	o := small
	change(&o)
	return o
}

// wrongOpts are options that may not be.
func wrongOpts() []api.Opts {
	out := []api.Opts{{}, {Plain: true}, {Block: 16}, {Bucket: 1}, {Block: 1, Bucket: 16}, {Data: 4, Parity: 2, Chunk: 64}}
	for _, n := range []int{math.MinInt, -1 << 32, -16, -1, 0, 1, 15, 32769, 1<<16 + 16, 1<<32 + 16, math.MaxInt} {
		out = append(out, edge(func(o *api.Opts) { o.Block = n }), edge(func(o *api.Opts) { o.Block, o.Plain = n, true }))
	}
	for _, n := range []int{math.MinInt, -1 << 32, -64, -1, 0, 65, 66, 256, 257, 1<<32 + 1, math.MaxInt} {
		out = append(out, edge(func(o *api.Opts) { o.Bucket = n }), edge(func(o *api.Opts) { o.Bucket, o.Block, o.Data, o.Parity, o.Chunk = n, 1024, 4, 2, 64 }))
	}
	return out
}

// rightOpts are options that may be; those of stripes don't count, whether they may be for any version or not.
func rightOpts() []api.Opts {
	var out []api.Opts
	for _, size := range []int{16, 17, 1024, 32767, 32768} {
		for _, bucket := range []int{1, 2, 16, 63, 64} {
			for _, plain := range []bool{false, true} {
				out = append(out, api.Opts{Block: size, Plain: plain, Bucket: bucket})
			}
		}
	}
	for _, n := range []int{math.MinInt, -1, 0, 1, 255, 4096, 4097, math.MaxInt} {
		out = append(out,
			edge(func(o *api.Opts) { o.Data = n }),
			edge(func(o *api.Opts) { o.Parity = n }),
			edge(func(o *api.Opts) { o.Chunk = n }),
			edge(func(o *api.Opts) { o.Data, o.Parity, o.Chunk = n, n, n }))
	}
	return out
}

func TestOpts(t *testing.T) {
	b := mustMake(t, small, three()...)
	for _, o := range wrongOpts() {
		if made, e := Make(o, three()...); e != api.ErrOpts || len(made) != 0 {
			t.Errorf("%+v: made %q, error %d", o, made, e)
		}
		if x, e := Open(o, b); e != api.ErrOpts || x != nil {
			t.Errorf("%+v: opened %t, error %d", o, x != nil, e)
		}
	}
	for _, o := range rightOpts() {
		wantMake(t, o, three()...)
		other := api.Opts{Block: o.Block, Plain: o.Plain, Bucket: o.Bucket}
		if !bytes.Equal(mustMake(t, o, three()...), mustMake(t, other, three()...)) {
			t.Errorf("%+v: options of stripes count", o)
		}
		checkOpen(t, o, mustMake(t, other, three()...))
	}
}

// TestOpenOtherOpts: of the options Bucket alone says how bytes are read.
func TestOpenOtherOpts(t *testing.T) {
	for _, o := range rightOpts() {
		b := mustMake(t, o, three()...)
		for _, other := range rightOpts() {
			e, logE := checkOpen(t, other, b)
			if o.Bucket == other.Bucket && (e != api.OK || logE != api.OK) {
				t.Errorf("made by %+v, opened by %+v: error %d, of its log %d", o, other, e, logE)
			}
		}
	}
}

// tooMuch are logs that may not be.
func tooMuch() map[string][]api.Record {
	return map[string][]api.Record{
		"20001 records":                    make([]api.Record, 20001),
		"a text of 4001 bytes":             {{}, {Text: xs(4001)}},
		"a source of 4001 bytes":           {{Source: xs(4001)}, {}},
		"a weight of 2^20 and 1":           append(same(261, api.Record{Text: xs(4000)}), api.Record{Text: xs(385)}),
		"a weight of 2^20 and 1, of all":   append(same(130, api.Record{Source: xs(4000), Text: xs(4000)}), api.Record{Source: xs(3000), Text: xs(3481)}),
		"a weight of 2^20 and 16":          append(same(261, api.Record{Text: xs(4000)}), api.Record{Text: xs(384)}, api.Record{}),
		"far more than there may be":       same(1<<16, api.Record{Text: xs(4001)}),
		"a text of 2^20 bytes":             {{Text: xs(1 << 20)}},
		"a text of 2^32 bytes, more or so": {{Text: xs(1<<16 + 1)}},
	}
}

func TestMakeLimits(t *testing.T) {
	for what, l := range tooMuch() {
		if b, e := Make(small, l...); e != api.ErrLimit || len(b) != 0 {
			t.Errorf("%s: %d bytes, error %d", what, len(b), e)
		}
		for _, o := range []api.Opts{{}, {Block: 15, Bucket: 1}, {Block: 16, Bucket: 65}} {
			if b, e := Make(o, l...); e != api.ErrOpts || len(b) != 0 {
				t.Errorf("%s, %+v: %d bytes, error %d", what, o, len(b), e)
			}
		}
	}
}

// P20.2

// fault is something wrong with what a body is laid of, and the error of opening it.
type fault struct {
	what string
	e    api.Errno
	do   func(x *laid)
}

// number tells a fault: the directory's number i stands so.
func number(i int, b string, e api.Errno) fault {
	return fault{fmt.Sprintf("the directory's number %d is %q", i, b), e, func(x *laid) { x.numbers[i] = []byte(b) }}
}

// badNumber tells the faults of a number of the directory of three, of at most so much.
func badNumber(i, most int) []fault {
	nine := strings.Repeat("\xff", 9)
	return []fault{
		number(i, "\x80\x00", api.ErrForm),
		number(i, "\x81\x80\x00", api.ErrForm),
		number(i, nine+"\x02", api.ErrForm),
		number(i, nine+"\x80", api.ErrForm),
		number(i, nine+"\x01", api.ErrLimit),
		number(i, strings.Repeat("\x80", 9)+"\x01", api.ErrLimit),
		number(i, string(plainNum(uint64(most+1))), api.ErrLimit),
		number(i, string(plainNum(1<<32+1)), api.ErrLimit),
	}
}

// cutDirectory tells a fault: the directory's bytes end ahead of the number i, or in it.
func cutDirectory(n int) fault {
	return fault{fmt.Sprintf("the directory has %d bytes", n), api.ErrShort, func(x *laid) { x.directoryChunk = plainChunk(x.directory()[:n]) }}
}

// faults are of opening the body of three; those of one row of the table are told ahead of those of a later one.
func faults() [][]fault {
	longs := []int{20000, 3, 3, 1 << 23, 3, 1 << 23, 1 << 23, 1 << 23}
	out := [][]fault{
		{
			{"the directory has more bytes than there are", api.ErrShort, func(x *laid) { x.long = []byte{0xff, 0xff, 0xff, 0xff} }},
			{"the directory has one byte more than there are", api.ErrShort, func(x *laid) {
				x.long = nil
				x.long = append([]byte{}, byte(len(x.bytes())-3), 0, 0, 0)
			}},
			{"the directory has 2^31 bytes", api.ErrShort, func(x *laid) { x.long = []byte{0, 0, 0, 0x80} }},
			{"the directory's chunk has no bytes", api.ErrShort, func(x *laid) { x.long = []byte{0, 0, 0, 0} }},
			{"the directory's chunk has three bytes", api.ErrShort, func(x *laid) { x.long = []byte{3, 0, 0, 0} }},
		},
		{
			{"the directory's sum", api.ErrSum, func(x *laid) { x.directoryChunk = turned(plainChunk(x.directory()), -1) }},
			{"the directory's bytes", api.ErrSum, func(x *laid) { x.directoryChunk = turned(plainChunk(x.directory()), 0) }},
			{"the directory's chunk has a byte less", api.ErrSum, func(x *laid) { x.long = []byte{11, 0, 0, 0} }},
			{"the directory's chunk has a byte more", api.ErrSum, func(x *laid) { x.long = []byte{13, 0, 0, 0} }},
			{"the directory's chunk is all there is", api.ErrSum, func(x *laid) {
				x.long = nil
				x.long = append([]byte{}, byte(len(x.bytes())-4), 0, 0, 0)
			}},
		},
	}
	for i, most := range longs {
		out = append(out, append(badNumber(i, most), cutDirectory(i)))
	}
	out = append(out, []fault{
		{"a byte is left behind the directory's numbers", api.ErrForm, func(x *laid) { x.behind = []byte{0} }},
		{"numbers are left behind the directory's", api.ErrForm, func(x *laid) { x.behind = []byte{1, 20} }},
		{"a byte of no number is left behind them", api.ErrForm, func(x *laid) { x.behind = []byte{0xff} }},
		number(0, "\x04", api.ErrForm),
		number(0, "\xa0\x9c\x01", api.ErrForm),
		number(2, "\x02", api.ErrForm),
		number(2, "\x00", api.ErrForm),
		number(4, "\x00", api.ErrForm),
		number(4, "\x01", api.ErrForm),
		number(4, "\x03", api.ErrForm),
		{"the first block has all records, the second one none", api.ErrForm, func(x *laid) { x.counts = []uint64{3, 0} }},
		{"the second block has all records, the first one none", api.ErrForm, func(x *laid) { x.counts = []uint64{0, 3} }},
		{"a block more without records", api.ErrForm, func(x *laid) { x.counts, x.frames = []uint64{1, 0, 2}, slices.Insert(x.frames, 1, nil) }},
		{"a frame more, of two blocks", api.ErrForm, func(x *laid) { x.frames = append(x.frames, x.frames[0]) }},
		number(3, "\x13", api.ErrForm),
		number(3, "\x15", api.ErrForm),
		number(3, "\x00", api.ErrForm),
		number(5, "\x80\x80\x80\x04", api.ErrForm),
		number(6, "\x0a", api.ErrForm),
		number(6, "\x80\x80\x80\x04", api.ErrForm),
		number(7, "\x35", api.ErrForm),
		number(7, "\x37", api.ErrForm),
		number(7, "\x80\x80\x80\x04", api.ErrForm),
		{"a byte of no part ahead of the directory", api.ErrForm, func(x *laid) {
			chunk := or(x.indexChunk, plainChunk(x.index))
			x.numbers[7], x.indexChunk = plainNum(uint64(len(chunk))), append(chunk, 0)
		}},
	}, []fault{
		{"the columns' chunk has three bytes", api.ErrShort, func(x *laid) { x.columnsChunk = []byte{0, 0, 0} }},
		{"the columns' chunk has no bytes", api.ErrShort, func(x *laid) { x.columnsChunk = []byte{} }},
	}, []fault{
		{"the columns' sum", api.ErrSum, func(x *laid) { x.columnsChunk = turned(plainChunk(x.columns), -2) }},
		{"the columns' bytes", api.ErrSum, func(x *laid) { x.columnsChunk = turned(plainChunk(x.columns), 2) }},
		{"a byte of the columns' chunk is the second frame's", api.ErrSum, func(x *laid) { x.numbers[5], x.numbers[6] = []byte{0x17}, []byte{0x0a} }},
		{"a byte of the index's chunk is the columns'", api.ErrSum, func(x *laid) { x.numbers[6], x.numbers[7] = []byte{0x0c}, []byte{0x35} }},
	}, []fault{
		columnsAre("\x12\x03", api.ErrShort),
		columnsAre("", api.ErrShort),
		columnsAre("\x12\x03\x80\x00\x01\x02\x03\x01", api.ErrForm),
		columnsAre("\x12\x03\x02\x01", api.ErrShort),
		columnsAre("\x12\x03\x02\x01\x02\x03", api.ErrShort),
		columnsAre("\x12\x03\x02\x01\x02\x03\x02", api.ErrLimit),
		columnsAre("\x12\x03\x02\x01\x02\x01\x01", api.ErrForm),
		columnsAre("\x12\x03\x02\x01\x02\x03\x00", api.ErrForm),
		columnsAre("\x12\x03\x02\x01\x04", api.ErrLimit),
		columnsAre("\x12\x03\x02\x04\x01\x02\x03\x01", api.ErrLimit), // a time more: its four are a level, and the second level is of three
	}, []fault{
		columnsAre("\x12\x03\x02\x01\x02\x03\x01\x00", api.ErrForm),
		columnsAre("\x12\x03\x02\x01\x02\x03\x01\x04\x01", api.ErrForm),
	}, []fault{
		{"the index's chunk has three bytes", api.ErrShort, func(x *laid) { x.indexChunk = []byte{0, 0, 0} }},
		{"the index's chunk has no bytes", api.ErrShort, func(x *laid) { x.indexChunk = []byte{} }},
	}, []fault{
		{"the index's sum", api.ErrSum, func(x *laid) { x.indexChunk = turned(plainChunk(x.index), -3) }},
		{"the index's bytes", api.ErrSum, func(x *laid) { x.indexChunk = turned(plainChunk(x.index), 5) }},
	}, []fault{
		indexIs("", api.ErrShort),
		indexIs("\x80\x00", api.ErrForm),
		indexIs("\x81\x80\x40", api.ErrLimit),
		indexIs("\x01\x02\x01a", api.ErrShort),
		indexIs("\x01\x02\x01a\x00", api.ErrForm),
		indexIs("\x01\x02\x01a\x04\xff", api.ErrLimit),
		indexIs("\x01\x02\x01a\x01\xe0", api.ErrForm),
		indexIs("\x01\x02\x01a\x01\x60", api.ErrForm),
		indexIs("\x01\x02\x01a\x01\xa0", api.ErrRange),
		indexIs("\x01\x02\x01a\x01\x40\x00", api.ErrForm),
		indexIs("\x02\x05\x01a\x00\x01b\x01\x40\x01\x40", api.ErrLimit), // of buckets of two: the second bucket has a byte, the first text 97
		indexIs("\x02\x02\x02\x01b\x01a\x01\x40\x01\x40", api.ErrForm),
		indexIs("\x00\x00", api.ErrForm),
	})
	return out
}

// columnsAre tells a fault: the columns are these bytes, with their sum.
func columnsAre(b string, e api.Errno) fault {
	return fault{fmt.Sprintf("the columns are %q", b), e, func(x *laid) { x.columnsChunk = plainChunk([]byte(b)) }}
}

// indexIs tells a fault: the index is these bytes, with their sum.
func indexIs(b string, e api.Errno) fault {
	return fault{fmt.Sprintf("the index is %q", b), e, func(x *laid) { x.indexChunk = plainChunk([]byte(b)) }}
}

// turned tells bytes with a bit turned in one, that is counted from the last one on if it is below 0.
func turned(b []byte, at int) []byte {
	b = slices.Clone(b)
	b[(at+len(b))%len(b)] ^= 4
	return b
}

// wantRefused sees that opening bytes tells this error and no body.
func wantRefused(t *testing.T, what string, o api.Opts, b []byte, want api.Errno) {
	t.Helper()
	if x, e := Open(o, b); e != want || x != nil {
		t.Errorf("%s: a body %t, error %d, not %d", what, x != nil, e, want)
	}
	if _, e := plainOpen(o, b); e != want {
		t.Errorf("%s: as the words tell it, error %d, not %d", what, e, want)
	}
}

func TestOpenFaults(t *testing.T) {
	right := laidOf(t, small, three())
	wantFaces(t, mustOpen(t, small, right.bytes()), plainBody{counts: []int{1, 2}, times: []uint64{9, 7, 8}, levels: []uint8{1, 1, 3}, index: post.Build(three()...)})
	for _, row := range faults() {
		for _, f := range row {
			b := right.with(f.do).bytes()
			wantRefused(t, f.what, small, b, f.e)
			wantRefused(t, f.what+", and options that may not be", api.Opts{Block: 16}, b, api.ErrOpts)
		}
	}
}

// TestOpenFirstFault: of two faults the first one is told, but for a few that together are another one.
func TestOpenFirstFault(t *testing.T) {
	right := laidOf(t, small, three())
	rows := faults()
	first, other := 0, 0
	for i, row := range rows {
		for _, f := range row {
			for _, g := range slices.Concat(rows[i+1:]...) {
				b := right.with(func(x *laid) {
					g.do(x)
					f.do(x)
				}).bytes()
				_, want := plainOpen(small, b)
				wantRefused(t, f.what+"; "+g.what, small, b, want)
				if want == f.e {
					first++
				} else {
					other++
				}
			}
		}
	}
	if first < 30*other {
		t.Errorf("of %d pairs of faults %d tell another one's error", first+other, other)
	}
}

func TestOpenShort(t *testing.T) {
	for n := range 4 {
		for _, c := range []byte{0, 1, 255} {
			wantRefused(t, strconv.Itoa(n)+" bytes", small, bytes.Repeat([]byte{c}, n), api.ErrShort)
			wantRefused(t, strconv.Itoa(n)+" bytes, and options that may not be", api.Opts{}, bytes.Repeat([]byte{c}, n), api.ErrOpts)
		}
	}
	wantRefused(t, "nothing", small, nil, api.ErrShort)
	for n := range 12 {
		b := append(bytes.Repeat([]byte{0}, n), byte(n), 0, 0, 0)
		want := api.ErrShort
		if n > 4 {
			want = api.ErrSum // of bytes that are all 0 the sum isn't 0; it is of none
		}
		wantRefused(t, fmt.Sprintf("a directory's chunk of %d bytes 0", n), small, b, want)
		wantRefused(t, fmt.Sprintf("a directory's chunk of %d bytes, and one more", n), small, append(bytes.Repeat([]byte{0}, n), byte(n+1), 0, 0, 0), api.ErrShort)
		for at := 1; at < 4; at++ {
			far := slices.Clone(b)
			far[n+at] = 1
			wantRefused(t, fmt.Sprintf("a directory's chunk of %d bytes and 256 or more", n), small, far, api.ErrShort)
		}
	}
}

// TestOpenCut: of bodies each cut is refused, and each with bytes behind; ones that are cut ahead, or have bytes ahead, too.
func TestOpenCut(t *testing.T) {
	r := chance(2)
	for range 60 {
		o := someOpts(r)
		b := mustMake(t, o, someLog(r, 4, 20)...)
		for n := range b {
			if e, _ := checkOpen(t, o, b[:n]); e == api.OK {
				t.Fatalf("%d of %d bytes are opened", n, len(b))
			}
			if e, _ := checkOpen(t, o, b[n+1:]); e == api.OK {
				t.Fatalf("%d of %d bytes from the last one on are opened", len(b)-n-1, len(b))
			}
		}
		for _, more := range []string{"\x00", "\x01", "\xff", "\x00\x00\x00\x00", string(b)} {
			if e, _ := checkOpen(t, o, append(slices.Clone(b), more...)); e == api.OK && more != string(b) {
				t.Fatalf("%q behind a body is opened", more)
			}
			if e, _ := checkOpen(t, o, append([]byte(more), b...)); e == api.OK {
				t.Fatalf("%q ahead of a body is opened", more)
			}
		}
	}
}

// TestOpenTurned: with any one byte changed, a body isn't opened, or has no log.
func TestOpenTurned(t *testing.T) {
	r := chance(3)
	logs := [][]api.Record{nil, three(), someLog(r, 20, 60), same(30, api.Record{Source: "db", Text: "disk full"})}
	for _, l := range logs {
		o := someOpts(r)
		b := mustMake(t, o, l...)
		for at := range b {
			for _, by := range []byte{1, 2, 128, 255} {
				c := slices.Clone(b)
				c[at] ^= by
				if e, logE := checkOpen(t, o, c); e == api.OK && logE == api.OK {
					t.Fatalf("%d records, byte %d changed by %d: it is opened, and has a log", len(l), at, by)
				}
			}
		}
	}
}

// TestOpenEdges: the directory's numbers at their limits.
func TestOpenEdges(t *testing.T) {
	const most = 1 << 23
	right := laidOf(t, small, three())
	pad := func(b []byte, n int) []byte { return append(slices.Clone(b), make([]byte, n-len(b))...) }
	check := func(what string, e, logE api.Errno, change func(x *laid)) {
		t.Helper()
		if gotE, gotLogE := checkOpen(t, small, right.with(change).bytes()); gotE != e || gotLogE != logE {
			t.Errorf("%s: error %d, of its log %d, not %d, %d", what, gotE, gotLogE, e, logE)
		}
	}
	check("a frame of 2^23 bytes", api.OK, api.ErrForm, func(x *laid) { x.frames[1] = pad(x.frames[1], most) })
	check("a frame of one byte more", api.ErrLimit, api.OK, func(x *laid) { x.frames[1] = pad(x.frames[1], most+1) })
	check("columns of 2^23 bytes", api.ErrForm, api.OK, func(x *laid) { x.columns = pad(x.columns, most-4) })
	check("columns of one byte more", api.ErrLimit, api.OK, func(x *laid) { x.columns = pad(x.columns, most-3) })
	check("columns of one byte more, and a wrong sum", api.ErrLimit, api.OK, func(x *laid) { x.columnsChunk = make([]byte, most+1) })
	check("an index of 2^23 bytes", api.ErrForm, api.OK, func(x *laid) { x.index = pad(x.index, most-4) })
	check("an index of one byte more", api.ErrLimit, api.OK, func(x *laid) { x.index = pad(x.index, most-3) })
	check("frames without bytes", api.OK, api.ErrShort, func(x *laid) { x.frames = make([][]byte, 2) })
	check("512 frames of 2^23 bytes, 2^32 together", api.ErrForm, api.OK, func(x *laid) {
		x.counts, x.frames = slices.Repeat([]uint64{1}, 512), make([][]byte, 512)
		for k := range 512 {
			x.numbers[3+2*k] = plainNum(most)
		}
		x.columns = bytes.Repeat([]byte{0}, 514)
	})
}

// TestOpenMany: as many records and blocks as may be, and one more.
func TestOpenMany(t *testing.T) {
	for _, n := range []int{1, 127, 128, 19999, 20000} {
		l := make([]api.Record, n)
		for i := range l {
			l[i] = api.Record{Time: uint64(i * i), Level: uint8(i / 100), Source: "db", Text: strconv.Itoa(i) + " records"}
		}
		x := laidOf(t, small, l)
		if len(x.counts) != n {
			t.Fatalf("%d records have %d blocks", n, len(x.counts))
		}
		if e, logE := checkOpen(t, small, x.bytes()); e != api.OK || logE != api.OK {
			t.Errorf("%d records: error %d, of its log %d", n, e, logE)
		}
		more := x.with(func(x *laid) { x.numbers[1] = plainNum(uint64(n + 1)) })
		wantRefused(t, fmt.Sprintf("%d blocks of %d records", n+1, n), small, more.bytes(), api.ErrLimit)
		one := x.with(func(x *laid) { x.counts, x.frames = []uint64{uint64(n)}, x.frames[:1] })
		if e, _ := checkOpen(t, small, one.bytes()); e != api.OK {
			t.Errorf("%d records of one block: error %d", n, e)
		}
		wantRefused(t, fmt.Sprintf("a block of %d records of %d", n+1, n), small, one.with(func(x *laid) { x.numbers[2] = plainNum(uint64(n + 1)) }).bytes(), api.ErrLimit)
	}
	x := laidOf(t, small, make([]api.Record, 20000)).with(func(x *laid) { x.counts[len(x.counts)-1]++ })
	wantRefused(t, "20001 records", small, x.bytes(), api.ErrLimit)
}

// changed tells bytes with one taken out, put in, or made another one.
func changed(b []byte, how, at int, to byte) []byte {
	b = slices.Clone(b)
	switch how {
	case 0:
		return slices.Delete(b, at, at+1)
	case 1:
		return slices.Insert(b, at, to%4)
	case 2:
		b[at] ^= 1 << (to % 8)
	case 3:
		b[at]++
	case 4:
		b[at]--
	}
	return b
}

// TestOpenChance: what bodies are laid of is changed in places, with sums that are right, or not.
func TestOpenChance(t *testing.T) {
	r := chance(4)
	seen, seenLog := map[api.Errno]int{}, map[api.Errno]int{}
	some := func(b []byte) []byte {
		if len(b) == 0 {
			return []byte{byte(r.Intn(3))}
		}
		return changed(b, r.Intn(5), r.Intn(len(b)), byte(r.Intn(256)))
	}
	for range 40000 {
		o := someOpts(r)
		l := someLog(r, 5, 12)
		x := laidOf(t, o, l)
		other := laidOf(t, o, someLog(r, 5, 12))
		x = x.with(func(x *laid) {
			for range r.Intn(3) {
				k := r.Intn(len(x.frames) + 1)
				switch r.Intn(9) {
				case 0:
					x.columns = some(x.columns)
				case 1:
					x.index = some(x.index)
				case 2:
					x.directoryChunk = plainChunk(some(x.directory()))
				case 3:
					x.index = other.index
				case 4:
					x.columns = other.columns
				case 5:
					x.numbers[r.Intn(2*len(x.frames)+4)] = plainNum(uint64(r.Intn(30)))
				case 6:
					if k < len(x.frames) {
						x.frames[k] = some(x.frames[k])
					}
				case 7:
					if k < len(x.frames) {
						raw, _, _ := block.Read(x.frames[k])
						x.frames[k] = frameOf(t, o.Plain, some(raw))
					}
				case 8:
					if k < len(x.frames) && k < len(other.frames) {
						x.frames[k] = other.frames[k]
					}
				}
			}
		})
		b := x.bytes()
		if r.Intn(8) == 0 {
			b = some(b)
		}
		e, logE := checkOpen(t, o, b)
		seen[e]++
		if e == api.OK {
			seenLog[logE]++
		}
	}
	for _, e := range []api.Errno{api.OK, api.ErrShort, api.ErrForm, api.ErrSum, api.ErrLimit, api.ErrRange} {
		if seen[e] < 50 {
			t.Error("error", e, "of opening is seldom seen:", seen)
		}
	}
	for _, e := range []api.Errno{api.OK, api.ErrShort, api.ErrForm, api.ErrSum, api.ErrIndex} {
		if seenLog[e] < 50 {
			t.Error("error", e, "of a log is seldom seen:", seenLog)
		}
	}
}

// P20.3

func TestFacesByHand(t *testing.T) {
	b := mustOpen(t, small, mustMake(t, small, three()...))
	index := api.Index{Terms: []string{"@db", "@web", "a", "disk", "full", "get", "ok"}, Lists: [][]int{{0}, {1}, {1}, {0}, {0}, {1}, {2}}}
	if b.Len() != 3 || !slices.Equal(b.Blocks(), []int{1, 2}) || !slices.Equal(b.Times(), []uint64{9, 7, 8}) || !slices.Equal(b.Levels(), []uint8{1, 1, 3}) || !sameIndex(b.Index(), index) {
		t.Errorf("%d, %v, %v, %v, %v", b.Len(), b.Blocks(), b.Times(), b.Levels(), b.Index())
	}
	for i, want := range map[int]int{0: 0, 1: 1, 2: 1} {
		if k, ok := b.Block(i); k != want || !ok {
			t.Errorf("record %d: block %d, %t", i, k, ok)
		}
	}
	for _, i := range []int{math.MinInt, -1 << 32, -3, -2, -1, 3, 4, 1 << 32, 1<<32 + 1, math.MaxInt - 1, math.MaxInt} {
		if k, ok := b.Block(i); k != 0 || ok {
			t.Errorf("record %d: block %d, %t", i, k, ok)
		}
	}
}

func TestFacesEmpty(t *testing.T) {
	b := mustOpen(t, small, mustMake(t, small))
	wantFaces(t, b, plainBody{})
	wantFetch(t, b, 0, nil, api.ErrArg)
	wantLog(t, b, nil, api.OK)
	wantFaces(t, b, plainBody{})
}

// TestFacesTimes: times and levels of each kind.
func TestFacesTimes(t *testing.T) {
	var l []api.Record
	for i, time := range []uint64{math.MaxUint64, 0, 1 << 63, 1<<63 - 1, 5, 5, 4, math.MaxUint64 - 1, 1} {
		l = append(l, api.Record{Time: time, Level: []uint8{255, 0, 0, 128, 1, 1, 1, 2, 255}[i]})
	}
	for _, size := range []int{16, 32768} {
		wantMake(t, api.Opts{Block: size, Bucket: 1}, l...)
	}
}

// TestIndexAsRead: the index is the one that was read, whether it is the log's or not.
func TestIndexAsRead(t *testing.T) {
	for _, x := range []api.Index{{}, {Terms: []string{"none"}, Lists: [][]int{{0, 1, 2}}}, {Terms: []string{"A b", "\xff"}, Lists: [][]int{{2}, {0, 2}}}} {
		b, e := post.Bytes(1, 3, x)
		if e != api.OK {
			t.Fatal(e)
		}
		body := mustOpen(t, small, laidOf(t, small, three()).with(func(x *laid) { x.index = b }).bytes())
		if got := body.Index(); !sameIndex(got, x) {
			t.Errorf("%v, not %v", got, x)
		}
		wantLog(t, body, nil, api.ErrIndex)
		if got := body.Index(); !sameIndex(got, x) {
			t.Errorf("behind Log: %v, not %v", got, x)
		}
		wantFetch(t, body, 0, three()[:1], api.OK)
	}
}

// P20.4

// badFrames are frames of no block of two records, and the errors of fetching it.
func badFrames(t *testing.T) map[string]struct {
	frame []byte
	e     api.Errno
} {
	two := plainBytes(three()[1:])
	right := frameOf(t, true, two)
	follows := string(mustToks(t, lz.Find(two)))
	type bad = struct {
		frame []byte
		e     api.Errno
	}
	return map[string]bad{
		"no bytes":                          {nil, api.ErrShort},
		"a byte":                            {[]byte{0}, api.ErrShort},
		"a byte too few":                    {right[:len(right)-1], api.ErrShort},
		"the sum alone is missing":          {right[:len(right)-4], api.ErrShort},
		"a way 2":                           {rawFrame(2, len(two), string(two)), api.ErrForm},
		"a number of two bytes that is 0":   {plainChunk([]byte("\x00\x80\x00\x00")), api.ErrForm},
		"32769 bytes":                       {rawFrame(0, 32769, string(two)), api.ErrLimit},
		"32769 bytes that follow":           {rawFrame(0, 32768, xs(32769)), api.ErrLimit},
		"too many bytes of those":           {rawFrame(1, 1032*2+65, "ab"), api.ErrLimit},
		"a sum that isn't right":            {turned(right, -1), api.ErrSum},
		"a byte that isn't right":           {turned(right, 5), api.ErrSum},
		"a byte more than follow":           {rawFrame(0, len(two)+1, string(two)), api.ErrForm},
		"a byte less than follow":           {rawFrame(0, len(two)-1, string(two)), api.ErrForm},
		"no code":                           {rawFrame(1, len(two), strings.Repeat("\x11", 200)), api.ErrCode},
		"no bits":                           {rawFrame(1, len(two), ""), api.ErrShort},
		"more bytes than it says, squeezed": {rawFrame(1, len(two)-1, follows), api.ErrLimit},
		"less bytes than it says, squeezed": {rawFrame(1, len(two)+1, follows), api.ErrForm},
		"a match ahead of all bytes":        {rawFrame(1, 40, string(mustToks(t, []api.Token{{Len: 3, Dist: 1}}))), api.ErrRange},
		"bits that end too soon":            {rawFrame(1, len(two), follows[:len(follows)-2]), api.ErrShort},

		"a byte behind it":                      {append(slices.Clone(right), 0), api.ErrForm},
		"a frame behind it":                     {append(slices.Clone(right), right...), api.ErrForm},
		"a byte behind a wrong sum":             {append(turned(right, -1), 0), api.ErrSum},
		"a byte behind no records":              {append(frameOf(t, true, []byte{1}), 0), api.ErrForm},
		"a byte behind a text beyond its limit": {append(frameOf(t, true, []byte("\xa1\x1f")), 0), api.ErrForm},

		"a source that goes on":              {frameOf(t, true, []byte("\x80")), api.ErrShort},
		"a source that isn't there whole":    {frameOf(t, true, []byte("\x02a")), api.ErrShort},
		"no text":                            {frameOf(t, true, []byte("\x00")), api.ErrShort},
		"a text that isn't there whole":      {frameOf(t, true, two[:len(two)-1]), api.ErrShort},
		"a source of no number":              {frameOf(t, true, []byte("\x80\x00")), api.ErrForm},
		"a source of 4001 bytes":             {frameOf(t, true, []byte("\xa1\x1f"+xs(4001)+"\x00")), api.ErrLimit},
		"a text of 4001 bytes":               {frameOf(t, true, []byte("\x00\xa1\x1f"+xs(4001))), api.ErrLimit},
		"a third record's text is beyond":    {frameOf(t, true, append(slices.Clone(two), "\x00\xa1\x1f"...)), api.ErrLimit},
		"a third record that isn't there":    {frameOf(t, true, append(slices.Clone(two), 1)), api.ErrShort},
		"records that are written whole":     {frameOf(t, true, []byte("\x07\x01\x03web\x06GET /a\x08\x03\x00\x02ok")), api.ErrShort},
		"no records":                         {frameOf(t, true, nil), api.ErrForm},
		"one record":                         {frameOf(t, true, plainBytes(three()[1:2])), api.ErrForm},
		"three records":                      {frameOf(t, true, plainBytes(three())), api.ErrForm},
		"one record, squeezed":               {frameOf(t, false, plainBytes([]api.Record{{Text: xs(4000)}})), api.ErrForm},
		"far more records than there may be": {frameOf(t, false, make([]byte, 32768)), api.ErrForm},
	}
}

// mustToks tells the bits of tokens.
func mustToks(t *testing.T, l []api.Token) []byte {
	t.Helper()
	b, e := toks.Write(l)
	if e != api.OK {
		t.Fatal(e)
	}
	return b
}

func TestFetchFaults(t *testing.T) {
	for what, bad := range badFrames(t) {
		b := mustOpen(t, small, laidOf(t, small, three()).with(func(x *laid) { x.frames[1] = bad.frame }).bytes())
		if l, e := b.Fetch(1); e != bad.e || len(l) != 0 {
			t.Errorf("%s: %v, error %d, not %d", what, few(l), e, bad.e)
		}
		wantOpened(t, b, 1)
		wantFetch(t, b, 0, three()[:1], api.OK)
		wantOpened(t, b, 0, 1)
		if l, e := b.Log(); e != bad.e || len(l) != 0 {
			t.Errorf("%s: the log %v, error %d, not %d", what, few(l), e, bad.e)
		}
	}
}

// TestFetchReads: frames are read, not only those that are written.
func TestFetchReads(t *testing.T) {
	for _, plain := range []bool{false, true} {
		l := append(three()[:1], same(2, api.Record{Text: "disk disk disk disk disk disk disk disk disk"})...)
		x := laidOf(t, small, l)
		two := plainBytes(l[1:])
		x.counts, x.frames = []uint64{1, 2}, [][]byte{x.frames[0], frameOf(t, plain, two)}
		b := mustOpen(t, small, x.bytes())
		wantFetch(t, b, 1, []api.Record{{Text: l[1].Text}, {Text: l[2].Text}}, api.OK)
		wantLog(t, b, l, api.OK)
	}
	x := laidOf(t, api.Opts{Block: 32768, Bucket: 1}, three())
	b := mustOpen(t, small, x.bytes()) // by blocks of 16 bytes it would have two
	wantFetch(t, b, 0, three(), api.OK)
}

// wrongBlocks are blocks that there aren't, of two.
var wrongBlocks = []int{math.MinInt, -1 << 32, -2, -1, 2, 3, 1 << 32, 1<<32 + 1, math.MaxInt - 1, math.MaxInt}

func TestFetchNone(t *testing.T) {
	b := mustOpen(t, small, mustMake(t, small, three()...))
	for _, k := range wrongBlocks {
		wantFetch(t, b, k, nil, api.ErrArg)
		wantOpened(t, b)
	}
	wantFetch(t, b, 1, three()[1:], api.OK)
	for _, k := range wrongBlocks {
		wantFetch(t, b, k, nil, api.ErrArg)
		wantOpened(t, b, 1)
	}
}

func TestOpened(t *testing.T) {
	r := chance(5)
	for range 200 {
		l := someLog(r, 30, 12)
		b := mustOpen(t, small, mustMake(t, small, l...))
		blocks := len(b.Blocks())
		asked := map[int]bool{}
		for range 40 {
			k := r.Intn(blocks+4) - 2
			if k >= 0 && k < blocks {
				asked[k] = true
			}
			b.Fetch(k)
			var want []int
			for k := range blocks {
				if asked[k] {
					want = append(want, k)
				}
			}
			wantOpened(t, b, want...)
			switch r.Intn(3) {
			case 0:
				wantLog(t, b, l, api.OK)
			case 1:
				b.Block(k)
			}
			wantOpened(t, b, want...)
		}
	}
}

// P20.5

// TestLogFirst: the error of the first block that has one is told.
func TestLogFirst(t *testing.T) {
	l := []api.Record{{Text: xs(16)}, {Text: xs(17)}, {Text: xs(18)}, {Text: xs(19)}}
	right := laidOf(t, small, l)
	bad := []struct {
		frame []byte
		e     api.Errno
	}{{nil, api.ErrShort}, {frameOf(t, true, []byte("\x00\xa1\x1f")), api.ErrLimit}, {turned(right.frames[0], 3), api.ErrSum}, {frameOf(t, true, nil), api.ErrForm}}
	for i := range l {
		for k := range l {
			for _, x := range bad {
				for _, y := range bad {
					b := mustOpen(t, small, right.with(func(z *laid) { z.frames[i], z.frames[k], z.index = x.frame, y.frame, []byte{0} }).bytes())
					want := x.e
					if k <= i {
						want = y.e
					}
					wantLog(t, b, nil, want)
					wantOpened(t, b)
				}
			}
		}
	}
}

// heavy tells a log that weighs 2^20 and so much more, of 132 blocks by small, and what it is laid of, with an index that may be no log's.
func heavy(t *testing.T, more int, index bool) ([]api.Record, laid) {
	l := append(same(130, api.Record{Source: xs(4000), Text: xs(4000)}), api.Record{Source: xs(3000)}, api.Record{Time: 5, Level: 1, Text: xs(3464 + more)})
	x := laid{columns: columnsOf(l), index: []byte{0}}
	for _, r := range l {
		x.counts, x.frames = append(x.counts, 1), append(x.frames, frameOf(t, false, plainBytes([]api.Record{r})))
	}
	if index {
		x.index = indexOf(t, 1, len(l), l...)
	}
	return l, x
}

// columnsOf tells the columns of a log whose last record alone has a time, 5, and a level, 1.
func columnsOf(l []api.Record) []byte {
	b := append(make([]byte, len(l)-1), 10, 0)
	return append(append(b, plainNum(uint64(len(l)-1))...), 1, 1)
}

func TestLogLimit(t *testing.T) {
	for more := -2; more < 3; more++ {
		for _, index := range []bool{false, true} {
			l, x := heavy(t, more, index)
			b := mustOpen(t, small, x.bytes())
			switch {
			case more > 0:
				wantLog(t, b, nil, api.ErrLimit)
			case index:
				wantLog(t, b, l, api.OK)
			default:
				wantLog(t, b, nil, api.ErrIndex)
			}
			wantFetch(t, b, 131, l[131:], api.OK)
			wantOpened(t, b, 131)
		}
	}
}

// TestLogLimitLast: the error of a block is told ahead of the limit, also where the blocks ahead of it are too much by themselves.
func TestLogLimitLast(t *testing.T) {
	_, right := heavy(t, 1, true)
	last := len(right.frames)
	right.counts, right.frames = append(right.counts, 1), append(right.frames, frameOf(t, true, []byte{0, 0}))
	right.columns = columnsOf(make([]api.Record, last+1))
	for _, k := range []int{0, 130, last - 1, last} {
		x := right.with(func(x *laid) { x.frames[k] = turned(x.frames[k], -1) })
		wantLog(t, mustOpen(t, small, x.bytes()), nil, api.ErrSum)
	}
	wantLog(t, mustOpen(t, small, right.bytes()), nil, api.ErrLimit)
}

// TestLogIndex: the index must be that of the log.
func TestLogIndex(t *testing.T) {
	right := post.Build(three()...)
	for i, change := range []func(x *api.Index){
		func(x *api.Index) {},
		func(x *api.Index) { x.Terms, x.Lists = nil, nil },
		func(x *api.Index) { x.Terms[0] = "@da" },
		func(x *api.Index) { x.Terms[6] = "okk" },
		func(x *api.Index) { x.Terms[3] = "Disk" },
		func(x *api.Index) { x.Terms, x.Lists = x.Terms[1:], x.Lists[1:] },
		func(x *api.Index) { x.Terms, x.Lists = x.Terms[:6], x.Lists[:6] },
		func(x *api.Index) { x.Terms, x.Lists = append(x.Terms, "okk"), append(x.Lists, []int{2}) },
		func(x *api.Index) { x.Lists[0][0] = 1 },
		func(x *api.Index) { x.Lists[6] = []int{1, 2} },
		func(x *api.Index) { x.Lists[6] = []int{0} },
		func(x *api.Index) { x.Lists[2], x.Lists[3] = x.Lists[3], x.Lists[2] },
	} {
		x := api.Index{Terms: slices.Clone(right.Terms), Lists: copiesOf(right.Lists)}
		change(&x)
		if !slices.IsSorted(x.Terms) {
			x.Terms = slices.Sorted(slices.Values(x.Terms))
		}
		index, e := post.Bytes(1, 3, x)
		if e != api.OK {
			t.Fatal(i, e)
		}
		b := mustOpen(t, small, laidOf(t, small, three()).with(func(x *laid) { x.index = index }).bytes())
		if i == 0 {
			wantLog(t, b, three(), api.OK)
		} else {
			wantLog(t, b, nil, api.ErrIndex)
			wantLog(t, b, nil, api.ErrIndex)
		}
		wantOpened(t, b)
	}
}

// P20.6

func TestNil(t *testing.T) {
	var b *Body
	x := b.Index()
	if b.Len() != 0 || len(b.Blocks()) != 0 || len(b.Times()) != 0 || len(b.Levels()) != 0 || len(x.Terms)+len(x.Lists) != 0 || len(b.Opened()) != 0 {
		t.Error("a nil body has something")
	}
	for _, i := range []int{math.MinInt, -1, 0, 1, math.MaxInt} {
		if k, ok := b.Block(i); k != 0 || ok {
			t.Error("a nil body has a record", i)
		}
		wantFetch(t, b, i, nil, api.ErrArg)
	}
	wantLog(t, b, nil, api.ErrArg)
	wantOpened(t, b)
}

// TestZero: a zero body is asked without panic, as one without records.
func TestZero(t *testing.T) {
	var b Body
	wantFaces(t, &b, plainBody{})
	wantFetch(t, &b, 0, nil, api.ErrArg)
	wantLog(t, &b, nil, api.OK)
}

// P20.7

// full tells logs that may just be: as many records as may be, of empty ones and of such as have 2^20 bytes in all; as many words as may be.
func full() map[string][]api.Record {
	r := chance(6)
	word := func(n int) string {
		b := make([]byte, n)
		for i := range b {
			b[i] = "abcdefghijklmnopqrstuvwxyz0123456789"[r.Intn(36)]
		}
		return string(b)
	}
	var words, short []api.Record
	for range 20000 {
		words = append(words, api.Record{Time: r.Uint64(), Level: uint8(r.Intn(256)), Source: word(12), Text: word(24)})
	}
	for left := 1 << 20; left >= 16; {
		var s strings.Builder
		for s.Len()+5 < min(4000, left-16) {
			s.WriteString(word(4) + " ")
		}
		short = append(short, api.Record{Text: s.String()})
		left -= 16 + s.Len()
	}
	return map[string][]api.Record{
		"empty ones":    make([]api.Record, 20000),
		"words":         words,
		"short words":   short,
		"alike":         same(261, api.Record{Source: "a", Text: xs(3999)}),
		"sources alone": append(same(261, api.Record{Source: xs(4000)}), api.Record{Source: xs(384)}),
		"any bytes":     anyBytes(),
	}
}

// anyBytes tells a log of as much as may be of bytes of chance.
func anyBytes() []api.Record {
	r := chance(7)
	text := func(n int) string {
		b := make([]byte, n)
		r.Read(b)
		return string(b)
	}
	var l []api.Record
	for range 130 {
		l = append(l, api.Record{Time: r.Uint64(), Level: uint8(r.Intn(256)), Source: text(4000), Text: text(4000)})
	}
	return append(l, api.Record{Source: text(3000), Text: text(3464)})
}

func TestFull(t *testing.T) {
	for what, l := range full() {
		for _, o := range []api.Opts{small, {Block: 32768, Plain: true, Bucket: 64}, {Block: 1024, Bucket: 16}} {
			b := mustMake(t, o, l...)
			if len(b) > 1<<23 {
				t.Errorf("%s: %d bytes", what, len(b))
			}
			x := mustOpen(t, o, b)
			wantLog(t, x, l, api.OK)
			if x.Len() != len(l) || !sameIndex(x.Index(), post.Build(l...)) {
				t.Errorf("%s: %d records", what, x.Len())
			}
			at := 0
			for k, n := range x.Blocks() {
				wantFetch(t, x, k, l[at:at+n], api.OK)
				at += n
			}
		}
	}
}

// What holds everywhere

// TestLogsStay: logs that are handed in stay, their spare room, too; what is made is apart from what else is made.
func TestLogsStay(t *testing.T) {
	r := chance(8)
	for range 300 {
		o, l := someOpts(r), someLog(r, 8, 20)
		whole := append(slices.Clone(l), api.Record{Text: "spare"}, api.Record{Text: "room"})
		before := slices.Clone(whole)
		b := mustMake(t, o, whole[:len(l)]...)
		other := mustMake(t, o, whole[:len(l)]...)
		clear(other[:cap(other)])
		if !slices.Equal(whole, before) {
			t.Fatal("a log is changed")
		}
		clear(whole)
		if !bytes.Equal(b, laidOf(t, o, l).bytes()) {
			t.Fatal("a body's bytes hang together with a log, or with others")
		}
	}
}

// TestBytesStay: bytes that are handed in stay, their spare room, too, and aren't kept.
func TestBytesStay(t *testing.T) {
	r := chance(9)
	for range 300 {
		o, l := someOpts(r), someLog(r, 8, 20)
		b := mustMake(t, o, l...)
		whole := append(slices.Clone(b), "spare room"...)
		before := slices.Clone(whole)
		x := mustOpen(t, o, whole[:len(b)])
		for k := range x.Blocks() {
			x.Fetch(k)
		}
		x.Log()
		if !bytes.Equal(whole, before) {
			t.Fatal("bytes are changed")
		}
		x = mustOpen(t, o, whole[:len(b)])
		clear(whole)
		want, _ := plainOpen(o, b)
		wantFaces(t, x, want)
		wantLog(t, x, l, api.OK)
		for k := range want.counts {
			some, e := want.fetch(k)
			wantFetch(t, x, k, some, e)
		}
	}
}

// spoil writes over all that a body tells, and over its spare room.
func spoil(b *Body) {
	fill(b.Blocks(), -7)
	fill(b.Times(), 77)
	fill(b.Levels(), 77)
	fill(b.Opened(), -7)
	x := b.Index()
	for _, list := range x.Lists {
		fill(list, -7)
	}
	fill(x.Terms, "spoilt")
	fill(x.Lists, []int{-7})
	l, _ := b.Log()
	fill(l, api.Record{Text: "spoilt"})
	for k := range b.Blocks() {
		l, _ := b.Fetch(k)
		fill(l, api.Record{Text: "spoilt"})
	}
}

// fill writes over a list, and over its spare room.
func fill[T any](l []T, with T) {
	l = l[:cap(l)]
	for i := range l {
		l[i] = with
	}
}

// TestAnswersApart: what a body tells is apart from what it keeps, and from what else it tells.
func TestAnswersApart(t *testing.T) {
	r := chance(10)
	for range 300 {
		o, l := someOpts(r), someLog(r, 8, 20)
		b := mustMake(t, o, l...)
		x := mustOpen(t, o, b)
		want, _ := plainOpen(o, b)
		index, times, levels, counts := x.Index(), x.Times(), x.Levels(), x.Blocks()
		spoil(x)
		spoil(x)
		if !sameIndex(index, want.index) || !slices.Equal(times, want.times) || !slices.Equal(levels, want.levels) || !slices.Equal(counts, want.counts) {
			t.Fatal("answers hang together")
		}
		all := make([]int, len(want.counts))
		for k := range all {
			all[k] = k
		}
		wantFaces(t, x, want, all...)
		wantLog(t, x, l, api.OK)
		for k := range want.counts {
			some, e := want.fetch(k)
			wantFetch(t, x, k, some, e)
		}
		wantListsApart(t, x.Index())
	}
}

// wantListsApart sees that no list of an index, nor its spare room, is in another list of it.
func wantListsApart(t *testing.T, x api.Index) {
	t.Helper()
	want := copiesOf(x.Lists)
	for i, list := range x.Lists {
		fill(list, -7)
		x.Lists[i] = want[i]
		if !slices.EqualFunc(x.Lists, want, slices.Equal[[]int]) {
			t.Fatal("lists hang together")
		}
	}
}

// TestBodiesApart: what is done to one body is told of no other one, and two to which the same was done tell the same.
func TestBodiesApart(t *testing.T) {
	b := mustMake(t, small, three()...)
	x, y, z := mustOpen(t, small, b), mustOpen(t, small, b), mustOpen(t, small, b)
	x.Fetch(1)
	y.Fetch(1)
	wantOpened(t, x, 1)
	wantOpened(t, y, 1)
	wantOpened(t, z)
	opened := x.Opened()
	x.Fetch(0)
	wantOpened(t, x, 0, 1)
	if !slices.Equal(opened, []int{1}) {
		t.Error("what was told of opened blocks is changed")
	}
	wantOpened(t, y, 1)
	wantFetch(t, x, 0, three()[:1], api.OK)
	wantFetch(t, y, 0, three()[:1], api.OK)
}
