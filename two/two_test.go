package two

import (
	"bytes"
	"encoding/binary"
	"fmt"
	"math"
	"slices"
	"strconv"
	"strings"
	"testing"

	"firkin/api"
	"firkin/block"
	"firkin/body"
	"firkin/lz"
	"firkin/recs"
	"firkin/toks"
)

// small are the options of most archives here: a block of 16 bytes, and buckets of one term.
var small = api.Opts{Block: 16, Bucket: 1}

// three is a log of two blocks, of one record and of two, by those options.
func three() []api.Record {
	return []api.Record{
		{Time: 9, Level: 1, Source: "db", Text: "disk full"},
		{Time: 7, Level: 1, Source: "web", Text: "GET /a"},
		{Time: 8, Level: 3, Text: "ok"},
	}
}

// emptyBody is the body of no records, for buckets of any size: chapter 20's example.
func emptyBody() string {
	return "\x00\x00\x00\x00" + "\x00\x8d\xef\x02\xd2" + string(summed([]byte("\x00\x00\x04\x05"))) + "\x08\x00\x00\x00"
}

// threeBody is the body of three, for buckets of one term, in plain blocks that stand so in the directory.
func threeBody(directory string, blocks ...string) string {
	var frames strings.Builder
	for _, raw := range blocks {
		frames.Write(summed([]byte("\x00" + string(rune(len(raw))) + string(rune(len(raw))) + raw)))
	}
	return frames.String() +
		string(summed([]byte("\x12\x03\x02"+"\x01\x02\x03\x01"))) +
		string(summed([]byte("\x07"+"\x04\x05\x02\x05\x05\x04\x03"+"\x03@db\x04@web\x01a\x04disk\x04full\x03get\x02ok"+
			"\x01\x40"+"\x01\xc0"+"\x01\xc0"+"\x01\x40"+"\x01\x40"+"\x01\xc0"+"\x01\x20"))) +
		string(summed([]byte(directory+"\x0b\x36"))) +
		string(rune(len(directory)+6)) + "\x00\x00\x00"
}

// P22.1

func TestPackExample(t *testing.T) {
	want := string(summed([]byte("FIRK\x02\x10\x00\x01"))) + emptyBody()
	if b, e := Pack(small); e != api.OK || string(b) != want {
		t.Errorf("%q, error %d, not %q", b, e, want)
	}
	want = string(summed([]byte("FIRK\x02\x80\x80\x02\x01\x40"))) + emptyBody()
	if b, e := Pack(api.Opts{Block: 32768, Plain: true, Bucket: 64}); e != api.OK || string(b) != want {
		t.Errorf("%q, error %d, not %q", b, e, want)
	}
	want = string(summed([]byte("FIRK\x02\x80\x08\x00\x10"))) + emptyBody()
	if b, e := Pack(api.Opts{Block: 1024, Bucket: 16}); e != api.OK || string(b) != want {
		t.Errorf("%q, error %d, not %q", b, e, want)
	}
}

func TestPackByHand(t *testing.T) {
	want := string(summed([]byte("FIRK\x02\x10\x00\x01"))) +
		threeBody("\x03\x02"+"\x01\x14"+"\x02\x16", "\x02db\x09disk full", "\x03web\x06GET /a"+"\x00\x02ok")
	if b, e := Pack(small, three()...); e != api.OK || string(b) != want {
		t.Errorf("%q, error %d, not %q", b, e, want)
	}
	want = string(summed([]byte("FIRK\x02\x1c\x01\x01"))) +
		threeBody("\x03\x01"+"\x03\x23", "\x02db\x09disk full"+"\x03web\x06GET /a"+"\x00\x02ok")
	if b, e := Pack(api.Opts{Block: 28, Plain: true, Bucket: 1}, three()...); e != api.OK || string(b) != want {
		t.Errorf("%q, error %d, not %q", b, e, want)
	}
}

// TestPackPlain: blocks are squeezed where that is shorter, but not if Plain says so.
func TestPackPlain(t *testing.T) {
	l := same(20, api.Record{Source: "db", Text: "disk full, disk full"})
	raw := plainRecords(l...)
	o := api.Opts{Block: 32768, Bucket: 16}
	squeezed := mustPack(t, o, l...)
	o.Plain = true
	plain := mustPack(t, o, l...)
	const at = 5 + 3 + 1 + 1 + 4 // behind the head
	if way, e := block.Way(squeezed[at:]); way != 1 || e != api.OK {
		t.Errorf("the block isn't squeezed: way %d, error %d", way, e)
	}
	if way, e := block.Way(plain[at:]); way != 0 || e != api.OK {
		t.Errorf("the block is squeezed: way %d, error %d", way, e)
	}
	if !bytes.Contains(plain, raw) || bytes.Contains(squeezed, raw) || len(squeezed) >= len(plain)-len(raw)/2 {
		t.Errorf("squeezed it has %d bytes, plain %d", len(squeezed), len(plain))
	}
}

// TestPackBody: behind the head stands the body for the options.
func TestPackBody(t *testing.T) {
	r := chance(1)
	for range 300 {
		o, l := someOpts(r), someLog(r, 20, 60)
		b := mustPack(t, o, l...)
		inner, e := body.Make(o, l...)
		head := laidOf(t, o, nil).head()
		if e != api.OK || !bytes.Equal(b, slices.Concat(head, inner)) {
			t.Fatalf("%+v, %v: %q isn't a head and %q, error %d", o, l, b, inner, e)
		}
	}
}

func TestPackAll(t *testing.T) {
	r := chance(2)
	for range 1500 {
		wantPack(t, someOpts(r), someLog(r, 12, 12)...)
	}
	for range 100 {
		wantPack(t, someOpts(r), someLog(r, 60, 200)...)
	}
}

// edge tells options that may be, but for a change.
func edge(change func(o *api.Opts)) api.Opts {
	o := small
	change(&o)
	return o
}

// wrongOpts are options that may not be.
func wrongOpts() []api.Opts {
	out := []api.Opts{
		{}, {Plain: true},
		{Block: 16}, {Block: 1024, Plain: true}, // of version 1
		{Block: 1024, Bucket: 16, Data: 4, Parity: 2, Chunk: 64}, // of version 3
		{Block: 1024, Bucket: 16, Data: 1, Chunk: 1},
		{Bucket: 1}, {Bucket: 16, Plain: true}, {Block: 1, Bucket: 16}, {Data: 4, Parity: 2, Chunk: 64},
	}
	for _, n := range []int{math.MinInt, -1 << 32, -16, -1, 0, 1, 15, 32769, 1<<16 + 16, 1<<32 + 16, math.MaxInt} {
		out = append(out, edge(func(o *api.Opts) { o.Block = n }), edge(func(o *api.Opts) { o.Block, o.Plain = n, true }))
	}
	for _, n := range []int{math.MinInt, -1 << 32, -64, -1, 0, 65, 66, 256, 257, 1<<32 + 1, math.MaxInt} {
		out = append(out, edge(func(o *api.Opts) { o.Bucket = n }), edge(func(o *api.Opts) { o.Bucket, o.Plain = n, true }))
	}
	for _, n := range []int{math.MinInt, -1 << 32, -1, 1, 2, 64, 255, 4096, 1 << 32, math.MaxInt} {
		out = append(out,
			edge(func(o *api.Opts) { o.Data = n }),
			edge(func(o *api.Opts) { o.Parity = n }),
			edge(func(o *api.Opts) { o.Chunk = n }),
			edge(func(o *api.Opts) { o.Data, o.Parity, o.Chunk = n, n, n }))
	}
	return out
}

// rightOpts are options that may be.
func rightOpts() []api.Opts {
	var out []api.Opts
	for _, size := range []int{16, 17, 127, 128, 1024, 16383, 16384, 32767, 32768} {
		for _, bucket := range []int{1, 2, 16, 63, 64} {
			out = append(out, api.Opts{Block: size, Bucket: bucket}, api.Opts{Block: size, Plain: true, Bucket: bucket})
		}
	}
	return out
}

func TestPackOpts(t *testing.T) {
	for _, o := range wrongOpts() {
		for _, l := range [][]api.Record{nil, three()} {
			if b, e := Pack(o, l...); e != api.ErrOpts || len(b) != 0 {
				t.Errorf("%+v: %q, error %d", o, b, e)
			}
		}
	}
	for _, o := range rightOpts() {
		wantPack(t, o)
		wantPack(t, o, three()...)
	}
}

// tooMuch are logs that may not be.
func tooMuch() map[string][]api.Record {
	return map[string][]api.Record{
		"20001 records":                  make([]api.Record, 20001),
		"a text of 4001 bytes":           {{}, {Text: xs(4001)}},
		"a source of 4001 bytes":         {{Source: xs(4001)}, {}},
		"a weight of 2^20 and 1":         append(same(261, api.Record{Text: xs(4000)}), api.Record{Text: xs(385)}),
		"a weight of 2^20 and 1, of all": append(same(130, api.Record{Source: xs(4000), Text: xs(4000)}), api.Record{Source: xs(3000), Text: xs(3481)}),
		"a weight of 2^20 and 16":        append(same(261, api.Record{Text: xs(4000)}), api.Record{Text: xs(384)}, api.Record{}),
		"far more than there may be":     same(1<<16, api.Record{Text: xs(4001)}),
		"a text of 2^20 bytes":           {{Text: xs(1 << 20)}},
		"a text of 2^16 bytes and more":  {{Text: xs(1<<16 + 1)}},
	}
}

func TestPackLimits(t *testing.T) {
	for what, l := range tooMuch() {
		for _, o := range rightOpts() {
			if b, e := Pack(o, l...); e != api.ErrLimit || len(b) != 0 {
				t.Fatalf("%s, %+v: %d bytes, error %d", what, o, len(b), e)
			}
		}
		for _, o := range wrongOpts() {
			if b, e := Pack(o, l...); e != api.ErrOpts || len(b) != 0 {
				t.Fatalf("%s, %+v: %d bytes, error %d", what, o, len(b), e)
			}
		}
	}
}

// P22.2

func TestOpenByHand(t *testing.T) {
	head := string(summed([]byte("FIRK\x02\xe8\x07\x01\x01")))
	o := api.Opts{Block: 1000, Plain: true, Bucket: 1}
	wantUnpacked(t, []byte(head+emptyBody()), o, nil, 0)
	b := head + threeBody("\x03\x02"+"\x02\x1f"+"\x01\x0b", "\x02db\x09disk full"+"\x03web\x06GET /a", "\x00\x02ok")
	wantUnpacked(t, []byte(b), o, three(), 2)
	got, x, e := Open([]byte(b))
	if e != api.OK || got != o || x.Len() != 3 || !slices.Equal(x.Blocks(), []int{2, 1}) || !slices.Equal(x.Times(), []uint64{9, 7, 8}) || !slices.Equal(x.Levels(), []uint8{1, 1, 3}) {
		t.Fatalf("%+v, error %d", got, e)
	}
	index := api.Index{Terms: []string{"@db", "@web", "a", "disk", "full", "get", "ok"}, Lists: [][]int{{0}, {1}, {1}, {0}, {0}, {1}, {2}}}
	if !sameIndex(x.Index(), index) {
		t.Errorf("the index %v, not %v", x.Index(), index)
	}
	if l, e := x.Fetch(1); e != api.OK || !slices.Equal(l, three()[2:]) || !slices.Equal(x.Opened(), []int{1}) {
		t.Errorf("block 1: %v, error %d, opened %v", l, e, x.Opened())
	}
}

// fault is something wrong with what an archive is laid of, and the error that tells it.
type fault struct {
	what string
	e    api.Errno
	do   func(x *laid)
}

// endIs tells a fault: all bytes are made others.
func endIs(what string, e api.Errno, last func(b []byte) []byte) fault {
	return fault{what, e, func(x *laid) { x.last = last }}
}

// markIs tells a fault: the mark is another one.
func markIs(mark string, e api.Errno) fault {
	return fault{fmt.Sprintf("the mark is %q", mark), e, func(x *laid) { x.mark = mark }}
}

// plainIs tells a fault: Plain is another byte.
func plainIs(b byte) fault {
	return fault{fmt.Sprintf("Plain is %d", b), api.ErrForm, func(x *laid) { x.plain = b }}
}

// cutTo tells a fault: so many parts of the head are there, and no more.
func cutTo(parts int) fault {
	return fault{fmt.Sprintf("%d parts of the head are there", parts), api.ErrShort, func(x *laid) { x.parts = parts }}
}

// sumCut tells a fault: of the sum so many bytes are there, and no more.
func sumCut(n int) fault {
	return fault{fmt.Sprintf("%d bytes of the sum are there", n), api.ErrShort, func(x *laid) {
		x.parts, x.sum = 5, func(b []byte) []byte { return b[:len(b)-4+n] }
	}}
}

// sumIs tells a fault: the head with its sum is made another one.
func sumIs(what string, sum func(b []byte) []byte) fault {
	return fault{what, api.ErrSum, func(x *laid) { x.sum = sum }}
}

// optsAre tells a fault: Block and Bucket are others.
func optsAre(size, bucket uint64) fault {
	return fault{fmt.Sprintf("Block is %d, Bucket %d", size, bucket), api.ErrOpts, func(x *laid) { x.size, x.bucket = size, bucket }}
}

// bodyIs tells a fault: the body is made another one.
func bodyIs(what string, e api.Errno, body func(b []byte) []byte) fault {
	return fault{what, e, func(x *laid) { x.body = body }}
}

// badNumber tells the faults of the number that is the head's part at this place, behind the mark, of at most so much.
func badNumber(part, most int) []fault {
	put := func(b string, e api.Errno, whole bool) fault {
		return fault{fmt.Sprintf("the head's part %d is %q, whole %t", part, b, whole), e, func(x *laid) {
			*map[int]*[]byte{0: &x.sizeBytes, 2: &x.bucketBytes}[part] = []byte(b)
			if !whole {
				x.parts = part + 2
			}
		}}
	}
	nine := strings.Repeat("\xff", 9)
	return []fault{
		put("\x80\x00", api.ErrForm, true),
		put("\x90\x00", api.ErrForm, true),
		put("\x81\x80\x00", api.ErrForm, true),
		put(nine+"\x02", api.ErrForm, true),
		put(nine+"\x80", api.ErrForm, true),
		put(nine+nine+nine+nine, api.ErrForm, true),
		put(strings.Repeat("\x80", 9)+"\x00", api.ErrForm, true),
		put(nine+"\x01", api.ErrLimit, true),
		put(strings.Repeat("\x80", 9)+"\x01", api.ErrLimit, true),
		put(string(plainNum(uint64(most+1))), api.ErrLimit, true),
		put(string(plainNum(1<<32+1)), api.ErrLimit, true),
		put(string(plainNum(1<<63)), api.ErrLimit, true),
		put("\x80", api.ErrShort, false),
		put(nine, api.ErrShort, false),
		put(nine+"\x01", api.ErrLimit, false),
		put(string(plainNum(uint64(most+1))), api.ErrLimit, false),
		cutTo(part + 1),
	}
}

// headFaults are of opening the archive of three, by its head; those of one row of the table are told ahead of those of a later one.
func headFaults() [][]fault {
	return [][]fault{
		{
			endIs("no bytes", api.ErrShort, func(b []byte) []byte { return nil }),
			endIs("a byte", api.ErrShort, func(b []byte) []byte { return b[:1] }),
			endIs("four bytes", api.ErrShort, func(b []byte) []byte { return b[:4] }),
			endIs("four other bytes", api.ErrShort, func(b []byte) []byte { return make([]byte, 4) }),
		},
		{markIs("FIRk\x02", api.ErrMagic), markIs("firk\x02", api.ErrMagic), markIs("\x00IRK\x02", api.ErrMagic), markIs("KRIF\x02", api.ErrMagic), markIs("FIR\x02K", api.ErrMagic), markIs("firk\x01", api.ErrMagic), markIs("FIRL\x09", api.ErrMagic)},
		{markIs("FIRK\x00", api.ErrVersion), markIs("FIRK\x01", api.ErrVersion), markIs("FIRK\x03", api.ErrVersion), markIs("FIRK\x04", api.ErrVersion), markIs("FIRK\x82", api.ErrVersion), markIs("FIRK\xff", api.ErrVersion), markIs("FIRK2", api.ErrVersion)},
		badNumber(0, 32768),
		{cutTo(2), plainIs(2), plainIs(3), plainIs(16), plainIs(128), plainIs(129), plainIs(255)},
		badNumber(2, 64),
		{cutTo(4), sumCut(0), sumCut(1), sumCut(2), sumCut(3)},
		{
			sumIs("the sum's first byte", func(b []byte) []byte { return turned(b, -4) }),
			sumIs("the sum's second byte", func(b []byte) []byte { return turned(b, -3) }),
			sumIs("the sum's third byte", func(b []byte) []byte { return turned(b, -2) }),
			sumIs("the sum's last byte", func(b []byte) []byte { return turned(b, -1) }),
			sumIs("the sum, the highest byte first", func(b []byte) []byte {
				slices.Reverse(b[len(b)-4:])
				return b
			}),
			sumIs("a sum of what stands behind the mark", func(b []byte) []byte { return append(b[:5:5], summed(b[5:len(b)-4])...) }),
			sumIs("a sum of all but Bucket", func(b []byte) []byte {
				n := len(b) - 4
				return append(b[:n:n], summed(b[:n-1])[n-1:]...)
			}),
			sumIs("a sum of the mark alone", func(b []byte) []byte {
				n := len(b) - 4
				return append(b[:n:n], summed(b[:5])[5:]...)
			}),
			sumIs("a sum 0", func(b []byte) []byte { return append(b[:len(b)-4], 0, 0, 0, 0) }),
			sumIs("no sum", func(b []byte) []byte { return b[:len(b)-4] }),
			sumIs("a byte ahead of the sum", func(b []byte) []byte { return slices.Insert(b, len(b)-4, 0) }),
		},
		{optsAre(0, 1), optsAre(1, 1), optsAre(15, 1), optsAre(16, 0), optsAre(32768, 0), optsAre(0, 0), optsAre(15, 64)},
	}
}

// framesLong tells how many bytes the frames have.
func framesLong(x *laid) int { return len(slices.Concat(x.frames...)) }

// bodyFaults are of opening the archive of three, by its body; its head is right.
func bodyFaults() []fault {
	cut := func(n int) fault {
		return bodyIs(fmt.Sprintf("%d bytes of the body", n), api.ErrShort, func(b []byte) []byte { return b[:n] })
	}
	ends := func(what string, long uint32, e api.Errno) fault {
		return bodyIs(what, e, func(b []byte) []byte { return binary.LittleEndian.AppendUint32(b[:len(b)-4:len(b)-4], long) })
	}
	directory := func(what string, e api.Errno, change func(b []byte) []byte) fault {
		return fault{what, e, func(x *laid) { x.directory = change }}
	}
	is := func(b string) func([]byte) []byte { return func([]byte) []byte { return []byte(b) } }
	return []fault{
		{"no body", api.ErrShort, func(x *laid) { x.parts = 5 }},
		cut(0), cut(1), cut(3),
		bodyIs("a body of four bytes", api.ErrShort, is("\x04\x00\x00\x00")),
		bodyIs("a body of 3 bytes and four", api.ErrShort, is("\x00\x00\x00\x03\x00\x00\x00")),
		ends("the directory has 1000 bytes", 1000, api.ErrShort),
		ends("the directory has 2^32 - 1 bytes", 1<<32-1, api.ErrShort),
		ends("the directory has no bytes", 0, api.ErrShort),
		ends("the directory has a byte less", 11, api.ErrSum),
		ends("the directory has a byte more", 13, api.ErrSum),
		bodyIs("the directory's sum", api.ErrSum, func(b []byte) []byte { return turned(b, -5) }),
		bodyIs("the directory's first byte", api.ErrSum, func(b []byte) []byte { return turned(b, -16) }),
		bodyIs("a byte behind the body", api.ErrShort, func(b []byte) []byte { return append(slices.Clone(b), 0) }),
		bodyIs("the body without its first byte", api.ErrForm, func(b []byte) []byte { return b[1:] }),
		bodyIs("a byte ahead of the body", api.ErrForm, func(b []byte) []byte { return slices.Insert(b, 0, 0) }),
		bodyIs("a head ahead of the body", api.ErrForm, func(b []byte) []byte { return append(summed([]byte("FIRK\x02\x10\x00\x01")), b...) }),
		directory("no numbers", api.ErrShort, is("")),
		directory("a number is cut", api.ErrShort, is("\x83")),
		directory("a number of no form", api.ErrForm, is("\x83\x00\x02\x01\x14\x02\x16\x0b\x36")),
		directory("20001 records", api.ErrLimit, is("\xa1\x9c\x01\x02\x01\x14\x02\x16\x0b\x36")),
		directory("four blocks of three records", api.ErrLimit, is("\x03\x04\x01\x14\x02\x16\x0b\x36")),
		directory("2^23 bytes and one of a frame", api.ErrLimit, is("\x03\x02\x01\x81\x80\x80\x04")),
		directory("a byte is left", api.ErrForm, func(b []byte) []byte { return append(b, 0) }),
		directory("four records", api.ErrForm, func(b []byte) []byte { return append([]byte{4}, b[1:]...) }),
		{"a block has no records", api.ErrForm, func(x *laid) { x.counts = []int{3, 0}[:len(x.counts)] }},
		{"the columns' sum", api.ErrSum, func(x *laid) {
			at := framesLong(x)
			x.body = func(b []byte) []byte { return turned(b, at) }
		}},
		{"no columns", api.ErrShort, func(x *laid) { x.columns = nil }},
		{"a byte is left behind the columns", api.ErrForm, func(x *laid) { x.columns = append(slices.Clone(x.columns), 0) }},
		{"a time of no form", api.ErrForm, func(x *laid) { x.columns = []byte("\x12\x83\x00\x02" + "\x01\x02\x03\x01") }},
		{"the index's sum", api.ErrSum, func(x *laid) {
			at := framesLong(x) + len(x.columns) + 4
			x.body = func(b []byte) []byte { return turned(b, at) }
		}},
		{"no index", api.ErrShort, func(x *laid) { x.index = nil }},
		{"a byte is left behind the index", api.ErrForm, func(x *laid) { x.index = append(slices.Clone(x.index), 0) }},
		{"2^20 terms and one", api.ErrLimit, func(x *laid) { x.index = []byte("\x81\x80\x40") }},
	}
}

func TestOpenFaults(t *testing.T) {
	right := laidOf(t, small, three())
	wantUnpacked(t, right.bytes(), small, three(), 2)
	for _, row := range append(headFaults(), bodyFaults()) {
		for _, f := range row {
			wantRefused(t, f.what, right.with(f.do).bytes(), f.e)
		}
	}
}

// TestOpenFirstFault: of two faults the first one is told, but for a few that together are another one.
func TestOpenFirstFault(t *testing.T) {
	right := laidOf(t, small, three())
	rows := append(headFaults(), bodyFaults(), logFaults(t))
	first, other := 0, 0
	for i, row := range rows[:len(rows)-1] {
		for _, f := range row {
			for _, g := range slices.Concat(rows[i+1:]...) {
				b := right.with(func(x *laid) {
					g.do(x)
					f.do(x)
				}).bytes()
				_, _, want := plainOpen(b)
				if want == f.e {
					first++
				} else {
					other++
				}
				if want == api.OK {
					continue // the one took back what the other one did
				}
				wantRefused(t, f.what+"; "+g.what, b, want)
			}
		}
	}
	if first < 30*other {
		t.Errorf("of %d pairs of faults %d tell another one's error", first+other, other)
	}
}

func TestOpenShort(t *testing.T) {
	wantRefused(t, "nothing", nil, api.ErrShort)
	for n := range 5 {
		for _, s := range []string{"FIRK\x02", "FIRK\x01", "firk\x02", "\x00\x00\x00\x00\x00", "xxxxx"} {
			wantRefused(t, fmt.Sprintf("%q", s[:n]), []byte(s[:n]), api.ErrShort)
		}
	}
	for _, s := range []string{"FIRK\x02", "FIRK\x02\x10", "FIRK\x02\x10\x00", "FIRK\x02\x10\x00\x01", "FIRK\x02\x10\x00\x01\x00", "FIRK\x02\x10\x00\x01\x00\x00\x00"} {
		wantRefused(t, fmt.Sprintf("%q", s), []byte(s), api.ErrShort)
		wantRefused(t, fmt.Sprintf("%q of version 1", s), []byte("FIRK\x01"+s[5:]), api.ErrVersion)
		wantRefused(t, fmt.Sprintf("%q of version 3", s), []byte("FIRK\x03"+s[5:]), api.ErrVersion)
		wantRefused(t, fmt.Sprintf("%q of another mark", s), []byte("FIRk\x02"+s[5:]), api.ErrMagic)
	}
	head := string(summed([]byte("FIRK\x02\x10\x00\x01")))
	wantRefused(t, "the head alone", []byte(head), api.ErrShort)
	for n := range len(head) {
		wantRefused(t, fmt.Sprintf("%d bytes of the head", n), []byte(head[:n]), api.ErrShort)
	}
	wantRefused(t, "the mark and its sum", append(summed([]byte("FIRK\x02\x10\x00"))[:7], 0xff), api.ErrShort)
}

// TestOpenOther: archives of the other versions are refused.
func TestOpenOther(t *testing.T) {
	for _, mark := range []string{"FIRK\x01", "FIRK\x03"} {
		wantRefused(t, "an archive of another version", laidOf(t, small, three()).with(func(x *laid) { x.mark = mark }).bytes(), api.ErrVersion)
	}
	wantRefused(t, "an archive of version 1", summed([]byte("FIRK\x01\x10\x00\x00\x00")), api.ErrVersion)
}

// TestCut: of archives each cut is refused, and each with bytes behind or ahead.
func TestCut(t *testing.T) {
	r := chance(3)
	for range 60 {
		b := mustPack(t, someOpts(r), someLog(r, 4, 20)...)
		refused := func(what string, b []byte) {
			if opening, e := checkBytes(t, b); opening == api.OK || e != opening {
				t.Fatalf("%s: opened with error %d, unpacked with error %d", what, opening, e)
			}
		}
		for n := range b {
			refused(fmt.Sprintf("%d of %d bytes", n, len(b)), b[:n])
			refused(fmt.Sprintf("%d of %d bytes left out", n+1, len(b)), b[n+1:])
			refused(fmt.Sprintf("of %d bytes that at %d left out", len(b), n), slices.Delete(slices.Clone(b), n, n+1)[:len(b)-2])
		}
		for _, more := range []string{"\x00", "\x01", "\xff", "\x00\x00\x00\x00", string(b)} {
			refused(fmt.Sprintf("%q behind", more), append(slices.Clone(b), more...))
			refused(fmt.Sprintf("%q ahead", more), append([]byte(more), b...))
		}
	}
}

// TestTurned: with any one byte changed an archive is refused; it is opened, if that byte is of a block.
func TestTurned(t *testing.T) {
	r := chance(4)
	logs := [][]api.Record{nil, three(), someLog(r, 20, 60), same(30, api.Record{Source: "db", Text: "disk full"})}
	for _, l := range logs {
		o := someOpts(r)
		x := laidOf(t, o, l)
		b := mustPack(t, o, l...)
		from := len(x.head())
		to := from + framesLong(&x)
		for at := range b {
			for by := 1; by < 256; by++ {
				if len(b) > 300 && at >= from && by&(by-1) > 0 && by < 255 { // of long ones a bit, or all
					continue
				}
				c := slices.Clone(b)
				c[at] ^= byte(by)
				opening, e := checkBytes(t, c)
				if e == api.OK || (opening == api.OK) != (at >= from && at < to) {
					t.Fatalf("%d records, byte %d of %d changed by %d: opened with error %d, unpacked with error %d", len(l), at, len(b), by, opening, e)
				}
				if at < 4 && e != api.ErrMagic || at == 4 && e != api.ErrVersion || at > 4 && (e == api.ErrMagic || e == api.ErrVersion) {
					t.Fatalf("%d records, byte %d changed by %d: error %d", len(l), at, by, e)
				}
			}
		}
	}
}

// TestOpenOpts: options are told as they stand there, and may be for version 2.
func TestOpenOpts(t *testing.T) {
	check := func(size, bucket uint64, flag byte, right laid) {
		b := right.with(func(x *laid) { x.size, x.bucket, x.plain = size, bucket, flag }).bytes()
		what := fmt.Sprintf("Block %d, Plain %d, Bucket %d", size, flag, bucket)
		switch {
		case size > 32768:
			wantRefused(t, what, b, api.ErrLimit)
		case flag > 1:
			wantRefused(t, what, b, api.ErrForm)
		case bucket > 64:
			wantRefused(t, what, b, api.ErrLimit)
		case size < 16 || bucket == 0:
			wantRefused(t, what, b, api.ErrOpts)
		default:
			wantUnpacked(t, b, api.Opts{Block: int(size), Plain: flag == 1, Bucket: int(bucket)}, three(), 2)
		}
	}
	for bucket := range uint64(70) {
		right := laidOf(t, api.Opts{Block: 16, Bucket: int(min(max(bucket, 1), 64))}, three())
		for _, size := range []uint64{0, 1, 15, 16, 17, 127, 128, 1024, 16383, 16384, 32767, 32768, 32769, 65536} {
			for flag := range byte(4) {
				check(size, bucket, flag, right)
			}
		}
	}
	right := laidOf(t, small, three())
	for size := uint64(0); size < 32800; size++ {
		if size < 300 || size > 32700 || size%37 == 0 {
			check(size, 1, byte(size%2), right)
		}
	}
}

// TestOpenOtherBucket: the index is read for buckets of the size that the head says.
func TestOpenOtherBucket(t *testing.T) {
	for _, is := range []int{1, 2, 3, 7, 64} {
		right := laidOf(t, api.Opts{Block: 16, Bucket: is}, three())
		for _, says := range []uint64{1, 2, 3, 7, 64} {
			opening, e := checkBytes(t, right.with(func(x *laid) { x.bucket = says }).bytes())
			one := is == int(says) || is >= 7 && says >= 7 // of seven terms
			if (opening == api.OK) != one || (e == api.OK) != one {
				t.Errorf("an index for buckets of %d, it says %d: opened with error %d, unpacked with error %d", is, says, opening, e)
			}
		}
	}
}

// TestOpenBody: the body is told as it was opened: no block of it is, and each call's is another one.
func TestOpenBody(t *testing.T) {
	r := chance(5)
	for range 200 {
		o, l := someOpts(r), someLog(r, 20, 60)
		b := mustPack(t, o, l...)
		if opening, e := checkBytes(t, b); opening != api.OK || e != api.OK {
			t.Fatalf("%+v, %v: opened with error %d, unpacked with error %d", o, l, opening, e)
		}
		_, x, _ := Open(b)
		_, y, _ := Open(b)
		for k := range x.Blocks() {
			x.Fetch(k)
		}
		Unpack(b)
		if len(x.Opened()) != len(x.Blocks()) || len(y.Opened()) != 0 {
			t.Fatalf("opened are %v and %v", x.Opened(), y.Opened())
		}
	}
}

// P22.3

// badFrame is a frame that isn't the block's, and the error.
type badFrame struct {
	what  string
	frame []byte
	e     api.Errno
}

// bitsOf tells the bits of tokens.
func bitsOf(t testing.TB, l []api.Token) string {
	t.Helper()
	b, e := toks.Write(l)
	if e != api.OK {
		t.Fatalf("%d tokens: error %d", len(l), e)
	}
	return string(b)
}

// squeezedFrame tells the frame of bytes of the way 1, whether that is shorter or not.
func squeezedFrame(t testing.TB, b []byte) []byte {
	t.Helper()
	return rawFrame(1, len(b), bitsOf(t, lz.Find(b)))
}

// badFrames are refused as blocks of two records.
func badFrames(t *testing.T) []badFrame {
	two := string(plainRecords(three()[1:]...))
	n := len(two)
	of := func(b string) []byte { return frameOf(t, true, []byte(b)) }
	right := of(two)
	return []badFrame{
		{"no bytes", nil, api.ErrShort},
		{"a byte", right[:1], api.ErrShort},
		{"a byte less", right[:len(right)-1], api.ErrShort},
		{"a way 2", rawFrame(2, n, two), api.ErrForm},
		{"a number of two bytes that is 0", summed([]byte("\x00\x80\x00\x00")), api.ErrForm},
		{"32769 bytes", rawFrame(0, 32769, two), api.ErrLimit},
		{"a sum that isn't right", turned(right, -1), api.ErrSum},
		{"a byte that isn't right", turned(right, 5), api.ErrSum},
		{"a byte more than follow", rawFrame(0, n+1, two), api.ErrForm},
		{"no code", rawFrame(1, n, strings.Repeat("\x11", 200)), api.ErrCode},
		{"no bits", rawFrame(1, n, ""), api.ErrShort},
		{"a match ahead of all bytes", rawFrame(1, 40, bitsOf(t, []api.Token{{Len: 3, Dist: 1}})), api.ErrRange},
		{"a byte behind it", append(of(two), 0), api.ErrForm},
		{"another frame behind it", append(of(two), right...), api.ErrForm},

		{"a source that goes on", of("\x80"), api.ErrShort},
		{"a source of no number", of("\x80\x00"), api.ErrForm},
		{"a source of 4001 bytes", of("\xa1\x1f" + xs(4001) + "\x00"), api.ErrLimit},
		{"no text", of("\x00"), api.ErrShort},
		{"a text that isn't there whole", of(two[:n-1]), api.ErrShort},
		{"a text of 4001 bytes", of("\x00\xa1\x1f" + xs(4001)), api.ErrLimit},
		{"no records", of(""), api.ErrForm},
		{"three records", of(two + "\x00\x00"), api.ErrForm},
	}
}

// logFaults are of unpacking the archive of three, which is opened.
func logFaults(t *testing.T) []fault {
	var out []fault
	for k := range 2 {
		for _, x := range badFrames(t) {
			out = append(out, fault{fmt.Sprintf("block %d: %s", k, x.what), x.e, func(y *laid) { y.frames[k] = x.frame }})
		}
	}
	other := func(what string, l ...api.Record) fault {
		return fault{"an index of " + what, api.ErrIndex, func(x *laid) { x.index = indexOf(t, 1, l...) }}
	}
	l := three()
	return append(out,
		fault{"the blocks change places", api.ErrForm, func(x *laid) { x.frames[0], x.frames[1] = x.frames[1], x.frames[0] }},
		fault{"the first block has two records, it says", api.ErrForm, func(x *laid) { x.counts = []int{2, 1} }},
		other("no terms", api.Record{}, api.Record{}, api.Record{}),
		other("a term less", l[0], l[1], api.Record{}),
		other("a term more", l[0], l[1], api.Record{Text: "ok then"}),
		other("another term", l[0], l[1], api.Record{Text: "no"}),
		other("other records", l[0], l[2], l[1]),
		fault{"another source", api.ErrIndex, func(x *laid) { x.frames[1] = frameOf(t, true, []byte("\x03wet\x06GET /a"+"\x00\x02ok")) }},
	)
}

func TestUnpackFaults(t *testing.T) {
	right := laidOf(t, small, three())
	for _, f := range logFaults(t) {
		wantNoLog(t, f.what, right.with(f.do).bytes(), f.e)
	}
}

// TestUnpackFirstBlock: the error of the first block that has one is told, ahead of that of the index.
func TestUnpackFirstBlock(t *testing.T) {
	l := []api.Record{{Text: xs(16)}, {Text: xs(17)}, {Text: xs(18)}, {Text: xs(19)}}
	right := laidOf(t, small, l)
	right.index = indexOf(t, 1, api.Record{Text: "a"}, l[1], l[2], l[3])
	wantNoLog(t, "an index of another log", right.bytes(), api.ErrIndex)
	bad := []badFrame{
		{"", frameOf(t, true, []byte("\x01")), api.ErrShort},
		{"", frameOf(t, true, nil), api.ErrForm},
		{"", turned(right.frames[0], 4), api.ErrSum},
		{"", frameOf(t, true, []byte("\x00\xa1\x1f")), api.ErrLimit},
		{"", rawFrame(1, 9, strings.Repeat("\x11", 200)), api.ErrCode},
		{"", rawFrame(1, 40, bitsOf(t, []api.Token{{Len: 3, Dist: 1}})), api.ErrRange},
	}
	for i := range l {
		for k := range l {
			for _, x := range bad {
				for _, y := range bad {
					b := right.with(func(z *laid) { z.frames[i], z.frames[k] = x.frame, y.frame }).bytes()
					want := x.e
					if k <= i {
						want = y.e
					}
					wantNoLog(t, fmt.Sprintf("blocks %d and %d", i, k), b, want)
				}
			}
		}
	}
}

// heavy tells a log that weighs 2^20 and so much more, and what it is laid of.
func heavy(t *testing.T, o api.Opts, more int) ([]api.Record, laid) {
	l := append(same(130, api.Record{Source: xs(4000), Text: xs(4000)}), api.Record{Time: 3, Source: xs(3000)}, api.Record{Time: 5, Level: 1, Text: xs(3464 + more)})
	return l, laidOf(t, o, l)
}

func TestUnpackLimit(t *testing.T) {
	for more := -2; more < 3; more++ {
		for _, o := range []api.Opts{small, {Block: 32768, Bucket: 64}, {Block: 32768, Plain: true, Bucket: 2}} {
			l, x := heavy(t, o, more)
			if more > 0 {
				wantNoLog(t, fmt.Sprintf("a weight of 2^20 and %d", more), x.bytes(), api.ErrLimit)
				x.index = indexOf(t, o.Bucket, append([]api.Record{{Text: "no"}}, l[1:]...)...)
				wantNoLog(t, "a log that may not be, and another one's index", x.bytes(), api.ErrLimit)
			} else {
				wantUnpacked(t, x.bytes(), o, l, len(x.frames))
			}
		}
	}
	_, right := heavy(t, api.Opts{Block: 32768, Bucket: 1}, 1)
	for k := range right.frames {
		wantNoLog(t, "a log that may not be, and a block's sum", right.with(func(x *laid) { x.frames[k] = turned(x.frames[k], -1) }).bytes(), api.ErrSum)
	}
}

// TestUnpackBlocks: blocks are read as they stand there, in groups of any size, squeezed or not, and are counted.
func TestUnpackBlocks(t *testing.T) {
	long := append(three(), api.Record{Text: strings.Repeat("disk ", 50)})
	for _, c := range [][]int{{4}, {1, 3}, {2, 2}, {3, 1}, {1, 1, 2}, {1, 2, 1}, {2, 1, 1}, {1, 1, 1, 1}} {
		for squeezed := range 1 << len(c) {
			for _, o := range rightOpts() {
				b := laidOf(t, o, long).with(func(x *laid) {
					x.counts, x.frames = c, nil
					left := long
					for k, n := range c {
						frame := frameOf(t, true, plainRecords(left[:n]...))
						if squeezed>>k&1 == 1 {
							frame = squeezedFrame(t, plainRecords(left[:n]...))
						}
						x.frames = append(x.frames, frame)
						left = left[n:]
					}
				}).bytes()
				wantUnpacked(t, b, o, long, len(c))
			}
		}
	}
}

// TestUnpackMany: as many records and blocks as may be, and one more.
func TestUnpackMany(t *testing.T) {
	for _, n := range []int{0, 1, 127, 128, 19999, 20000} {
		l := make([]api.Record, n)
		for i := range l {
			l[i] = api.Record{Time: uint64(i * i), Level: uint8(i / 100), Source: "db", Text: strconv.Itoa(i) + " many records"}
		}
		x := laidOf(t, small, l)
		if len(x.frames) != n {
			t.Fatalf("%d records have %d blocks", n, len(x.frames))
		}
		wantPack(t, small, l...)
	}
	l := make([]api.Record, 20001)
	x := laid{mark: "FIRK\x02", size: 16, bucket: 1, columns: recs.Columns(l...), index: []byte{0}}
	for range l {
		x.counts = append(x.counts, 1)
		x.frames = append(x.frames, frameOf(t, true, plainRecords(api.Record{})))
	}
	wantRefused(t, "20001 records", x.bytes(), api.ErrLimit)
	x = x.with(func(x *laid) {
		x.counts, x.frames, x.columns = x.counts[:20000], x.frames[:20000], recs.Columns(l[:20000]...)
	})
	wantUnpacked(t, x.bytes(), small, l[:20000], 20000)
}

// changed tells bytes with one taken out, put in, or made another one.
func changed(b []byte, how, at int, to byte) []byte {
	b = slices.Clone(b)
	switch how {
	case 0:
		return slices.Delete(b, at, at+1)
	case 1:
		return slices.Insert(b, at, to%4)
	case 2:
		b[at] ^= 1 << (to % 8)
	case 3:
		b[at]++
	case 4:
		b[at]--
	}
	return b
}

// TestChance: what archives are laid of is changed in places, with sums that are right, or not.
func TestChance(t *testing.T) {
	r := chance(6)
	opened, unpacked := map[api.Errno]int{}, map[api.Errno]int{}
	some := func(b []byte) []byte {
		if len(b) == 0 {
			return []byte{byte(r.Intn(3))}
		}
		return changed(b, r.Intn(5), r.Intn(len(b)), byte(r.Intn(256)))
	}
	for range 40000 {
		o := someOpts(r)
		x := laidOf(t, o, someLog(r, 5, 12)).with(func(x *laid) {
			for range r.Intn(3) {
				k := r.Intn(len(x.frames) + 1)
				switch what := r.Intn(11); {
				case what == 0:
					x.size = uint64(r.Intn(40))
				case what == 1:
					x.bucket = uint64(r.Intn(70))
				case what == 2:
					x.plain = byte(r.Intn(3))
				case what == 3:
					x.sum = func(b []byte) []byte { return summed(some(b[:len(b)-4])) }
				case what == 4:
					x.columns = some(x.columns)
				case what == 5:
					x.index = some(x.index)
				case what == 6:
					x.directory = some
				case what == 7:
					x.body = some
				case k == len(x.frames):
				case what == 8:
					x.frames[k] = some(x.frames[k])
				case what == 9:
					raw, _, _ := block.Read(x.frames[k])
					x.frames[k] = frameOf(t, o.Plain, some(raw))
				case what == 10:
					x.counts[k] += r.Intn(3) - 1
				}
			}
		})
		b := x.bytes()
		if r.Intn(8) == 0 {
			b = some(b)
		}
		opening, e := checkBytes(t, b)
		opened[opening]++
		unpacked[e]++
	}
	for _, e := range []api.Errno{api.OK, api.ErrShort, api.ErrForm, api.ErrMagic, api.ErrVersion, api.ErrSum, api.ErrLimit, api.ErrOpts} {
		if opened[e] < 50 {
			t.Error("error", e, "is seldom seen:", opened)
		}
	}
	if unpacked[api.ErrIndex] < 50 {
		t.Error("an index of another log is seldom seen:", unpacked)
	}
}

// TestAny: any bytes, most with a mark, and many with a head whose sum is right.
func TestAny(t *testing.T) {
	r := chance(7)
	for range 100000 {
		b := make([]byte, r.Intn(30))
		for i := range b {
			b[i] = byte(r.Intn(256) >> r.Intn(8))
		}
		if n := r.Intn(6); n < len(b) && r.Intn(10) > 0 {
			b = slices.Concat(summed(append([]byte("FIRK\x02"), b[:n]...)), b[n:])
		} else if r.Intn(10) > 0 {
			b = append([]byte("FIRK\x02"), b...)
		}
		checkBytes(t, b)
	}
}

// P22.4

// TestAnew: what is unpacked is packed to an archive that is unpacked to the same; just those that were packed are the same bytes.
func TestAnew(t *testing.T) {
	r := chance(8)
	anew, other := 0, 0
	for range 5000 {
		o, l := someOpts(r), someLog(r, 6, 30)
		x := laidOf(t, o, l)
		canonical := true
		if r.Intn(2) == 0 {
			x.size, x.plain = uint64(someOpts(r).Block), byte(r.Intn(2))
			canonical = bytes.Equal(x.bytes(), laidOf(t, api.Opts{Block: int(x.size), Plain: x.plain == 1, Bucket: o.Bucket}, l).bytes())
		}
		b := x.bytes()
		o, got, blocks, e := Unpack(b)
		if e != api.OK || !slices.Equal(got, l) || blocks != len(x.frames) {
			t.Fatalf("%q: %v, %d blocks, error %d", b, got, blocks, e)
		}
		again := mustPack(t, o, got...)
		wantUnpacked(t, again, o, l, len(plainGroups(o.Block, l)))
		if bytes.Equal(b, again) != canonical {
			t.Fatalf("%+v, %v: of %q is made %q", o, l, b, again)
		}
		if canonical {
			anew++
		} else {
			other++
		}
	}
	if anew < 500 || other < 500 {
		t.Errorf("%d are the same anew, %d others", anew, other)
	}
}

// full tells logs that may just be: as many records as may be, of empty ones and of such as have 2^20 bytes in all.
func full() map[string][]api.Record {
	r := chance(9)
	text := func(n int) string {
		b := make([]byte, n)
		r.Read(b)
		return string(b)
	}
	var short, any []api.Record
	for range 20000 {
		short = append(short, api.Record{Time: r.Uint64(), Level: uint8(r.Intn(256)), Source: text(12), Text: text(24)})
	}
	for range 130 {
		any = append(any, api.Record{Time: r.Uint64(), Level: uint8(r.Intn(256)), Source: text(4000), Text: text(4000)})
	}
	return map[string][]api.Record{
		"empty ones":     make([]api.Record, 20000),
		"short ones":     short,
		"alike":          same(261, api.Record{Source: "a", Text: xs(3999)}),
		"sources alone":  append(same(261, api.Record{Source: xs(4000)}), api.Record{Source: xs(384)}),
		"any bytes":      append(any, api.Record{Source: text(3000), Text: text(3464)}, api.Record{}),
		"one, the whole": {{Time: math.MaxUint64, Level: 255, Source: text(4000), Text: text(4000)}},
	}
}

func TestFull(t *testing.T) {
	for what, l := range full() {
		for _, o := range []api.Opts{small, {Block: 32768, Plain: true, Bucket: 16}, {Block: 32768, Bucket: 64}} {
			b := mustPack(t, o, l...)
			x := laidOf(t, o, l)
			if !bytes.Equal(b, x.bytes()) {
				t.Errorf("%s, %+v: %d bytes are others", what, o, len(b))
			}
			wantUnpacked(t, b, o, l, len(x.frames))
			o.Plain = true
			if plain := mustPack(t, o, l...); len(b) > len(plain) {
				t.Errorf("%s, Block %d: %d bytes, plain %d", what, o.Block, len(b), len(plain))
			}
		}
	}
}

// What holds everywhere

// TestLogsStay: logs that are handed in stay, their spare room, too; what is packed is apart from what else is packed.
func TestLogsStay(t *testing.T) {
	r := chance(10)
	for range 300 {
		o, l := someOpts(r), someLog(r, 8, 20)
		whole := append(slices.Clone(l), api.Record{Text: "spare"}, api.Record{Text: "room"})
		before := slices.Clone(whole)
		b := mustPack(t, o, whole[:len(l)]...)
		other := mustPack(t, o, whole[:len(l)]...)
		clear(other[:cap(other)])
		if !slices.Equal(whole, before) {
			t.Fatal("a log is changed")
		}
		clear(whole)
		if !bytes.Equal(b, laidOf(t, o, l).bytes()) {
			t.Fatal("an archive hangs together with a log, or with others")
		}
	}
}

// TestBytesStay: bytes that are handed in stay, their spare room, too, and what is opened or unpacked is apart from them, and from what else is.
func TestBytesStay(t *testing.T) {
	r := chance(11)
	for range 300 {
		o, l := someOpts(r), someLog(r, 8, 20)
		b := mustPack(t, o, l...)
		whole := append(slices.Clone(b), "spare room"...)
		before := slices.Clone(whole)
		_, got, _, _ := Unpack(whole[:len(b)])
		_, other, _, _ := Unpack(whole[:len(b)])
		_, x, _ := Open(whole[:len(b)])
		_, want, _ := plainOpen(b)
		if !bytes.Equal(whole, before) {
			t.Fatal("bytes are changed")
		}
		clear(other[:cap(other)])
		clear(whole)
		if !slices.Equal(got, l) {
			t.Fatal("a log hangs together with bytes, or with another one")
		}
		wantBody(t, x, want)
	}
}
