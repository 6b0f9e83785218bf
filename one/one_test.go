package one

import (
	"bytes"
	"fmt"
	"math"
	"slices"
	"strconv"
	"strings"
	"testing"

	"firkin/api"
	"firkin/block"
)

// small are the options of most archives here: a block of 16 bytes.
var small = api.Opts{Block: 16}

// three is a log of two blocks, of one record and of two, by those options.
func three() []api.Record {
	return []api.Record{
		{Time: 9, Level: 1, Source: "db", Text: "disk full"},
		{Time: 7, Level: 1, Source: "web", Text: "GET"},
		{Time: 8, Level: 3, Text: "ok"},
	}
}

// P21.1

func TestPackExample(t *testing.T) {
	want := string(summed([]byte("FIRK\x01\x10\x00\x00\x00")))
	if b, e := Pack(small); e != api.OK || string(b) != want {
		t.Errorf("%q, error %d, not %q", b, e, want)
	}
	want = string(summed([]byte("FIRK\x01\x80\x80\x02\x01\x00\x00")))
	if b, e := Pack(api.Opts{Block: 32768, Plain: true}); e != api.OK || string(b) != want {
		t.Errorf("%q, error %d, not %q", b, e, want)
	}
}

func TestPackByHand(t *testing.T) {
	want := string(summed([]byte("FIRK\x01" + "\x10\x00\x03\x02" +
		string(summed([]byte("\x00\x0f\x0f"+"\x09\x01\x02db\x09disk full"))) +
		string(summed([]byte("\x00\x10\x10"+"\x07\x01\x03web\x03GET"+"\x08\x03\x00\x02ok"))))))
	if b, e := Pack(small, three()...); e != api.OK || string(b) != want {
		t.Errorf("%q, error %d, not %q", b, e, want)
	}
	want = string(summed([]byte("FIRK\x01" + "\x80\x08\x01\x02\x01" +
		string(summed([]byte("\x00\x12\x12"+"\xff\xff\xff\xff\xff\xff\xff\xff\xff\x01\xff\x01a\x00"+"\x00\x00\x00\x00"))))))
	if b, e := Pack(api.Opts{Block: 1024, Plain: true}, api.Record{Time: math.MaxUint64, Level: 255, Source: "a"}, api.Record{}); e != api.OK || string(b) != want {
		t.Errorf("%q, error %d, not %q", b, e, want)
	}
}

// TestPackPlain: blocks are squeezed where that is shorter, but not if Plain says so.
func TestPackPlain(t *testing.T) {
	l := same(20, api.Record{Time: 5, Level: 2, Source: "db", Text: "disk full, disk full"})
	raw := plainBytes(l...)
	squeezed := mustPack(t, api.Opts{Block: 32768}, l...)
	plain := mustPack(t, api.Opts{Block: 32768, Plain: true}, l...)
	const at = 5 + 3 + 1 + 1 + 1 // behind the head
	if way, e := block.Way(squeezed[at:]); way != 1 || e != api.OK {
		t.Errorf("the block isn't squeezed: way %d, error %d", way, e)
	}
	if way, e := block.Way(plain[at:]); way != 0 || e != api.OK {
		t.Errorf("the block is squeezed: way %d, error %d", way, e)
	}
	if !bytes.Contains(plain, raw) || bytes.Contains(squeezed, raw) || len(squeezed) >= len(plain)-len(raw)/2 {
		t.Errorf("squeezed it has %d bytes, plain %d", len(squeezed), len(plain))
	}
	one, other := mustPack(t, api.Opts{Block: 32768}, three()...), mustPack(t, api.Opts{Block: 32768, Plain: true}, three()...)
	if len(one) != len(other) || !bytes.Equal(one[9:len(one)-4], other[9:len(other)-4]) {
		t.Error("a block that would be longer is squeezed")
	}
}

// TestPackGroups: a block has as many records as have the size Block at most, written whole, or one.
func TestPackGroups(t *testing.T) {
	of := func(longs ...int) []api.Record { // of so many bytes each, whole
		var l []api.Record
		for i, n := range longs {
			l = append(l, api.Record{Time: uint64(i) << 6, Level: uint8(i), Text: xs(n - 3 - len(plainNum(uint64(i)<<6)))})
		}
		return l
	}
	for _, c := range []struct {
		size   int
		l      []api.Record
		blocks int
	}{
		{16, nil, 0},
		{16, of(4), 1},
		{16, of(16), 1},
		{16, of(17), 1},
		{16, of(8, 8), 1},
		{16, of(8, 9), 2},
		{17, of(8, 9), 1},
		{16, of(17, 5, 5), 2},
		{16, of(5, 17, 5), 3},
		{16, of(5, 5, 6, 5), 2},
		{16, of(5, 5, 7, 9), 2},
		{16, of(5, 5, 7, 10), 3},
		{16, of(4, 4, 5, 5, 5, 5, 5), 3},
		{32768, of(4, 17, 90, 5), 1},
		{16, []api.Record{{Time: 127, Text: xs(4)}, {Time: 127, Text: xs(4)}}, 1},
		{16, []api.Record{{Time: 127, Text: xs(4)}, {Time: 128, Text: xs(4)}}, 2},
		{16, []api.Record{{Time: math.MaxUint64, Text: xs(3)}, {}}, 2},
		{32768, same(8192, api.Record{}), 1},
		{32768, same(8193, api.Record{}), 2},
		{32767, same(8192, api.Record{}), 2},
	} {
		o := api.Opts{Block: c.size}
		if _, _, blocks, e := Unpack(mustPack(t, o, c.l...)); blocks != c.blocks || e != api.OK {
			t.Errorf("blocks of %d bytes of %v: %d, error %d, not %d", c.size, few(c.l), blocks, e, c.blocks)
		}
		wantPack(t, o, c.l...)
	}
}

func TestPackAll(t *testing.T) {
	r := chance(1)
	for range 2000 {
		wantPack(t, someOpts(r), someLog(r, 12, 12)...)
	}
	for range 100 {
		wantPack(t, someOpts(r), someLog(r, 60, 200)...)
	}
}

// wrongOpts are options that may not be.
func wrongOpts() []api.Opts {
	out := []api.Opts{
		{}, {Plain: true},
		{Block: 1024, Bucket: 16}, {Block: 1024, Bucket: 16, Data: 4, Parity: 2, Chunk: 64}, // of later versions
		{Bucket: 16}, {Data: 4, Parity: 2, Chunk: 64},
	}
	for _, n := range []int{math.MinInt, -1 << 32, -16, -1, 0, 1, 15, 32769, 1<<16 + 16, 1<<32 + 16, math.MaxInt} {
		out = append(out, api.Opts{Block: n}, api.Opts{Block: n, Plain: true})
	}
	for _, n := range []int{math.MinInt, -1 << 32, -1, 1, 2, 64, 65, 1 << 32, math.MaxInt} {
		out = append(out, api.Opts{Block: 16, Bucket: n}, api.Opts{Block: 16, Data: n}, api.Opts{Block: 16, Parity: n}, api.Opts{Block: 16, Chunk: n})
	}
	return out
}

// rightOpts are options that may be.
func rightOpts() []api.Opts {
	var out []api.Opts
	for _, size := range []int{16, 17, 127, 128, 1024, 16383, 16384, 32767, 32768} {
		out = append(out, api.Opts{Block: size}, api.Opts{Block: size, Plain: true})
	}
	return out
}

func TestPackOpts(t *testing.T) {
	for _, o := range wrongOpts() {
		for _, l := range [][]api.Record{nil, three()} {
			if b, e := Pack(o, l...); e != api.ErrOpts || len(b) != 0 {
				t.Errorf("%+v: %q, error %d", o, b, e)
			}
		}
	}
	for _, o := range rightOpts() {
		wantPack(t, o)
		wantPack(t, o, three()...)
	}
}

// tooMuch are logs that may not be.
func tooMuch() map[string][]api.Record {
	return map[string][]api.Record{
		"20001 records":                  make([]api.Record, 20001),
		"a text of 4001 bytes":           {{}, {Text: xs(4001)}},
		"a source of 4001 bytes":         {{Source: xs(4001)}, {}},
		"a weight of 2^20 and 1":         append(same(261, api.Record{Text: xs(4000)}), api.Record{Text: xs(385)}),
		"a weight of 2^20 and 1, of all": append(same(130, api.Record{Source: xs(4000), Text: xs(4000)}), api.Record{Source: xs(3000), Text: xs(3481)}),
		"a weight of 2^20 and 16":        append(same(261, api.Record{Text: xs(4000)}), api.Record{Text: xs(384)}, api.Record{}),
		"far more than there may be":     same(1<<16, api.Record{Text: xs(4001)}),
		"a text of 2^20 bytes":           {{Text: xs(1 << 20)}},
		"a text of 2^16 bytes and more":  {{Text: xs(1<<16 + 1)}},
	}
}

func TestPackLimits(t *testing.T) {
	for what, l := range tooMuch() {
		for _, o := range rightOpts() {
			if b, e := Pack(o, l...); e != api.ErrLimit || len(b) != 0 {
				t.Fatalf("%s, %+v: %d bytes, error %d", what, o, len(b), e)
			}
		}
		for _, o := range wrongOpts() {
			if b, e := Pack(o, l...); e != api.ErrOpts || len(b) != 0 {
				t.Fatalf("%s, %+v: %d bytes, error %d", what, o, len(b), e)
			}
		}
	}
}

// P21.2

func TestUnpackByHand(t *testing.T) {
	head := "FIRK\x01" + "\xe8\x07\x01\x03\x02"
	one := string(summed([]byte("\x00\x0f\x0f" + "\x09\x01\x02db\x09disk full")))
	two := string(summed([]byte("\x00\x10\x10" + "\x07\x01\x03web\x03GET" + "\x08\x03\x00\x02ok")))
	wantUnpacked(t, summed([]byte(head+one+two)), api.Opts{Block: 1000, Plain: true}, three(), 2)
	wantUnpacked(t, summed([]byte(head+two+one)), api.Opts{Block: 1000, Plain: true}, append(three()[1:], three()[0]), 2)
}

// badFrame is a frame that is refused, and the error.
type badFrame struct {
	what  string
	frame []byte
	e     api.Errno
}

// badFrames are refused as blocks of an archive, whatever stands behind them.
func badFrames(t *testing.T) []badFrame {
	two := string(plainBytes(three()[1:]...))
	n := len(two)
	right := frameOf(t, true, []byte(two))
	follows := strings.Repeat(two, 9)
	tokens := string(bitsOf(t, nil))
	of := func(b string) []byte { return frameOf(t, true, []byte(b)) }
	squeezed := squeezedFrame(t, []byte(follows))
	return []badFrame{
		{"a way 2", rawFrame(2, n, two), api.ErrForm},
		{"a way 255", rawFrame(255, n, two), api.ErrForm},
		{"a number of two bytes that is 0", summed([]byte("\x00\x80\x00\x00")), api.ErrForm},
		{"a number of bytes that follow that is 0, of two", summed([]byte("\x00\x00\x80\x00")), api.ErrForm},
		{"32769 bytes", rawFrame(0, 32769, two), api.ErrLimit},
		{"32769 bytes that follow", rawFrame(0, 32768, xs(32769)), api.ErrLimit},
		{"too many bytes of those", rawFrame(1, 1032*2+65, "ab"), api.ErrLimit},
		{"a sum that isn't right", turned(right, -1), api.ErrSum},
		{"a byte that isn't right", turned(right, 5), api.ErrSum},
		{"a sum that isn't right, squeezed", turned(squeezed, -2), api.ErrSum},
		{"a byte more than follow", rawFrame(0, n+1, two), api.ErrForm},
		{"a byte less than follow", rawFrame(0, n-1, two), api.ErrForm},
		{"no code", rawFrame(1, n, strings.Repeat("\x11", 200)), api.ErrCode},
		{"no bits", rawFrame(1, n, ""), api.ErrShort},
		{"no tokens", rawFrame(1, n, tokens), api.ErrForm},
		{"more bytes than it says, squeezed", rawFrame(1, 9*n-1, string(bitsIn(t, squeezed))), api.ErrLimit},
		{"less bytes than it says, squeezed", rawFrame(1, 9*n+1, string(bitsIn(t, squeezed))), api.ErrForm},
		{"a match ahead of all bytes", rawFrame(1, 40, bitsOf(t, []api.Token{{Len: 3, Dist: 1}})), api.ErrRange},

		{"a time that goes on", of("\x80"), api.ErrShort},
		{"a time of no number", of("\x80\x00\x00\x00\x00"), api.ErrForm},
		{"a time of more than 64 bits", of(strings.Repeat("\xff", 9) + "\x02\x00\x00\x00"), api.ErrForm},
		{"no level", of("\x05"), api.ErrShort},
		{"no source", of("\x05\x01"), api.ErrShort},
		{"a source that goes on", of("\x05\x01\x80"), api.ErrShort},
		{"a source that isn't there whole", of("\x05\x01\x02a"), api.ErrShort},
		{"a source of no number", of("\x05\x01\x80\x00"), api.ErrForm},
		{"a source of 4001 bytes", of("\x05\x01\xa1\x1f" + xs(4001) + "\x00"), api.ErrLimit},
		{"no text", of("\x05\x01\x00"), api.ErrShort},
		{"a text that isn't there whole", of(two[:n-1]), api.ErrShort},
		{"a text of no number", of("\x05\x01\x00\x80\x00"), api.ErrForm},
		{"a text of 4001 bytes", of("\x05\x01\x00\xa1\x1f" + xs(4001)), api.ErrLimit},
		{"records that aren't written whole", of("\x03web\x03GET" + "\x00\x02ok"), api.ErrShort},
		{"a third record's text is beyond", of(two + "\x05\x01\x00\xa1\x1f"), api.ErrLimit},
		{"a third record that isn't there whole", of(two + "\x01"), api.ErrShort},
		{"a text that isn't there whole, squeezed", squeezedFrame(t, []byte(follows[:9*n-1])), api.ErrShort},
		{"no records", of(""), api.ErrForm},
		{"no records, squeezed", rawFrame(1, 0, tokens), api.ErrForm},
	}
}

// bitsIn tells the bits of tokens that a squeezed frame has, of less than 128 bytes.
func bitsIn(t *testing.T, frame []byte) []byte {
	t.Helper()
	p := &plain{b: frame[1:]}
	p.number(32768)
	n := p.number(32768)
	if p.e != api.OK || frame[0] != 1 {
		t.Fatalf("%q is no squeezed frame", frame)
	}
	return p.b[:n]
}

// shortFrames are refused as last blocks, behind which nothing stands.
func shortFrames(t *testing.T) []badFrame {
	right := frameOf(t, true, plainBytes(three()[1:]...))
	out := []badFrame{{"no bytes", nil, api.ErrShort}}
	for n := 1; n < len(right); n++ {
		out = append(out, badFrame{fmt.Sprintf("%d of %d bytes", n, len(right)), right[:n], api.ErrShort})
	}
	return append(out,
		badFrame{"a way 2 alone", []byte{2}, api.ErrForm},
		badFrame{"a number of bytes that isn't there whole", []byte{0, 0x80}, api.ErrShort},
		badFrame{"32769 bytes, and no more", []byte("\x00\x81\x80\x02"), api.ErrLimit},
		badFrame{"32768 bytes that follow, and no more", []byte("\x01\x80\x80\x02\x80\x80\x02"), api.ErrShort},
	)
}

// fault is something wrong with what an archive is laid of, and the error of unpacking it.
type fault struct {
	what string
	e    api.Errno
	do   func(x *laid)
}

// endIs tells a fault: all bytes are made others.
func endIs(what string, e api.Errno, last func(b []byte) []byte) fault {
	return fault{what, e, func(x *laid) { x.last = last }}
}

// markIs tells a fault: the mark is another one.
func markIs(mark string, e api.Errno) fault {
	return fault{fmt.Sprintf("the mark is %q", mark), e, func(x *laid) { x.mark = mark }}
}

// sizeIs tells a fault: Block is another one.
func sizeIs(size uint64, e api.Errno) fault {
	return fault{fmt.Sprintf("Block is %d", size), e, func(x *laid) { x.size = size }}
}

// plainIs tells a fault: Plain is another byte.
func plainIs(b byte) fault {
	return fault{fmt.Sprintf("Plain is %d", b), api.ErrForm, func(x *laid) { x.plain = b }}
}

// cutTo tells a fault: so many parts of the head are there, and no more.
func cutTo(parts int) fault {
	return fault{fmt.Sprintf("%d parts of the head are there", parts), api.ErrShort, func(x *laid) { x.parts = parts }}
}

// badNumber tells the faults of the number that is the head's part at this place, of at most so much.
func badNumber(part, most int) []fault {
	put := func(b string, e api.Errno, whole bool) fault {
		return fault{fmt.Sprintf("the head's part %d is %q, whole %t", part, b, whole), e, func(x *laid) {
			*map[int]*[]byte{0: &x.sizeBytes, 2: &x.manyBytes, 3: &x.blocksBytes}[part] = []byte(b)
			if !whole {
				x.parts = part + 2
			}
		}}
	}
	nine := strings.Repeat("\xff", 9)
	return []fault{
		put("\x80\x00", api.ErrForm, true),
		put("\x90\x00", api.ErrForm, true),
		put("\x81\x80\x00", api.ErrForm, true),
		put(nine+"\x02", api.ErrForm, true),
		put(nine+"\x80", api.ErrForm, true),
		put(nine+"\x01", api.ErrLimit, true),
		put(strings.Repeat("\x80", 9)+"\x01", api.ErrLimit, true),
		put(string(plainNum(uint64(most+1))), api.ErrLimit, true),
		put(string(plainNum(1<<32+1)), api.ErrLimit, true),
		put(string(plainNum(1<<63)), api.ErrLimit, true),
		put("\x80", api.ErrShort, false),
		put(nine, api.ErrShort, false),
		put(string(plainNum(uint64(most+1))), api.ErrLimit, false),
		cutTo(part + 1),
	}
}

// faults are of unpacking the archive of three; those of one row of the table are told ahead of those of a later one.
func faults(t *testing.T) [][]fault {
	out := [][]fault{
		{
			endIs("no bytes", api.ErrShort, func(b []byte) []byte { return nil }),
			endIs("a byte", api.ErrShort, func(b []byte) []byte { return b[:1] }),
			endIs("four bytes", api.ErrShort, func(b []byte) []byte { return b[:4] }),
			endIs("four other bytes", api.ErrShort, func(b []byte) []byte { return make([]byte, 4) }),
		},
		{markIs("FIRk\x01", api.ErrMagic), markIs("firk\x01", api.ErrMagic), markIs("\x00IRK\x01", api.ErrMagic), markIs("KRIF\x01", api.ErrMagic), markIs("FIR\x01K", api.ErrMagic), markIs("firk\x02", api.ErrMagic), markIs("FIRL\x09", api.ErrMagic)},
		{markIs("FIRK\x00", api.ErrVersion), markIs("FIRK\x02", api.ErrVersion), markIs("FIRK\x03", api.ErrVersion), markIs("FIRK\x04", api.ErrVersion), markIs("FIRK\x81", api.ErrVersion), markIs("FIRK\xff", api.ErrVersion), markIs("FIRK1", api.ErrVersion)},
		{
			endIs("the sum's last byte", api.ErrSum, func(b []byte) []byte { return turned(b, -1) }),
			endIs("the sum's first byte", api.ErrSum, func(b []byte) []byte { return turned(b, -4) }),
			endIs("a byte ahead of the sum", api.ErrSum, func(b []byte) []byte { return turned(b, -5) }),
			endIs("the first byte behind the mark", api.ErrSum, func(b []byte) []byte { return turned(b, 5) }),
			endIs("a byte too few", api.ErrSum, func(b []byte) []byte { return b[:len(b)-1] }),
			endIs("no sum", api.ErrSum, func(b []byte) []byte { return b[:len(b)-4] }),
			endIs("the mark alone", api.ErrSum, func(b []byte) []byte { return b[:5] }),
			endIs("the mark, and three bytes", api.ErrSum, func(b []byte) []byte { return b[:8] }),
			endIs("a byte behind the sum", api.ErrSum, func(b []byte) []byte { return append(b, 0) }),
			endIs("the sum, the highest byte first", api.ErrSum, func(b []byte) []byte {
				slices.Reverse(b[len(b)-4:])
				return b
			}),
			endIs("a sum of what stands behind the mark", api.ErrSum, func(b []byte) []byte { return append(b[:5:5], summed(b[5:len(b)-4])...) }),
			endIs("a sum 0", api.ErrSum, func(b []byte) []byte { return append(b[:len(b)-4], 0, 0, 0, 0) }),
		},
		badNumber(0, 32768),
		{cutTo(2), plainIs(2), plainIs(3), plainIs(16), plainIs(128), plainIs(129), plainIs(255)},
		badNumber(2, 20000),
		badNumber(3, 3),
		{sizeIs(0, api.ErrOpts), sizeIs(1, api.ErrOpts), sizeIs(15, api.ErrOpts)},
	}
	for k := range 2 {
		var row []fault
		bad := badFrames(t)
		if k == 1 {
			bad = append(bad, shortFrames(t)...)
		}
		for _, x := range bad {
			row = append(row, fault{fmt.Sprintf("block %d: %s", k, x.what), x.e, func(y *laid) {
				if k < len(y.frames) { // another fault may have taken it away
					y.frames[k], y.behind = x.frame, nil
				}
			}})
		}
		out = append(out, row)
	}
	return append(out, []fault{
		{"a block fewer than it says", api.ErrShort, func(x *laid) { x.blocksBytes = []byte{3} }},
		{"three blocks of bytes that are two, and one of no frame", api.ErrForm, func(x *laid) { x.blocksBytes, x.behind = []byte{3}, []byte{2} }},
		{"three blocks of which the last has no records", api.ErrForm, func(x *laid) { x.frames = append(x.frames, frameOf(t, true, nil)) }},
	}, []fault{
		{"a byte is left", api.ErrForm, func(x *laid) { x.behind = []byte{0} }},
		{"a byte of no frame is left", api.ErrForm, func(x *laid) { x.behind = []byte{0xff} }},
		{"a frame is left", api.ErrForm, func(x *laid) { x.behind = frameOf(t, true, nil) }},
		{"a block more than it says", api.ErrForm, func(x *laid) { x.blocksBytes = []byte{1} }},
		{"no blocks, it says", api.ErrForm, func(x *laid) { x.blocksBytes = []byte{0} }},
		{"a record more than it says", api.ErrForm, func(x *laid) { x.many = 2 }},
		{"a record fewer than it says", api.ErrForm, func(x *laid) { x.many = 4 }},
		{"20000 records, it says", api.ErrForm, func(x *laid) { x.many = 20000 }},
		{"no records, and no blocks, it says", api.ErrForm, func(x *laid) { x.many, x.blocksBytes = 0, []byte{0} }},
		{"no blocks of three records", api.ErrForm, func(x *laid) { x.frames = nil }},
		{"no second block of three records", api.ErrForm, func(x *laid) { x.frames = x.frames[:1] }},
	})
}

func TestUnpackFaults(t *testing.T) {
	right := laidOf(t, small, three())
	wantUnpacked(t, right.bytes(), small, three(), 2)
	for _, row := range faults(t) {
		for _, f := range row {
			wantRefused(t, f.what, right.with(f.do).bytes(), f.e)
		}
	}
}

// TestUnpackFirstFault: of two faults the first one is told, but for a few that together are another one.
func TestUnpackFirstFault(t *testing.T) {
	right := laidOf(t, small, three())
	rows := faults(t)
	first, other := 0, 0
	for i, row := range rows {
		for _, f := range row {
			for _, g := range slices.Concat(rows[i+1:]...) {
				b := right.with(func(x *laid) {
					g.do(x)
					f.do(x)
				}).bytes()
				want := plainUnpack(b).e
				wantRefused(t, f.what+"; "+g.what, b, want)
				if want == f.e {
					first++
				} else {
					other++
				}
			}
		}
	}
	if first < 30*other {
		t.Errorf("of %d pairs of faults %d tell another one's error", first+other, other)
	}
}

func TestUnpackShort(t *testing.T) {
	wantRefused(t, "nothing", nil, api.ErrShort)
	for n := range 5 {
		for _, s := range []string{"FIRK\x01", "FIRK\x02", "firk\x01", "\x00\x00\x00\x00\x00", "xxxxx"} {
			wantRefused(t, fmt.Sprintf("%q", s[:n]), []byte(s[:n]), api.ErrShort)
		}
	}
	for _, behind := range []string{"", "\x00", "\x10\x00", "\x10\x00\x00", "\x10\x00\x00\x00", "\x00\x00\x00\x00", "\xff\xff\xff\xff"} {
		wantRefused(t, fmt.Sprintf("the mark and %q", behind), []byte("FIRK\x01"+behind), api.ErrSum)
		wantRefused(t, fmt.Sprintf("the mark of 2 and %q", behind), []byte("FIRK\x02"+behind), api.ErrVersion)
		wantRefused(t, fmt.Sprintf("no mark and %q", behind), []byte("FIRk\x01"+behind), api.ErrMagic)
	}
	for n := range 5 {
		if b := summed([]byte("FIRK\x01")[:n]); len(b) > 4 && string(b[:5]) == "FIRK\x01" {
			t.Errorf("%d bytes ahead of the sum have the mark: such must be refused with ErrShort", n)
		}
	}
	wantRefused(t, "the mark and its sum", summed([]byte("FIRK\x01")), api.ErrShort)
	wantRefused(t, "the mark of 2 and its sum", summed([]byte("FIRK\x02")), api.ErrVersion)
	wantRefused(t, "the mark of 3 and its sum", summed([]byte("FIRK\x03")), api.ErrVersion)
}

// TestUnpackCut: of archives each cut is refused, and each with bytes behind or ahead, with the sum as it was or a right one.
func TestUnpackCut(t *testing.T) {
	r := chance(2)
	for range 60 {
		b := mustPack(t, someOpts(r), someLog(r, 4, 20)...)
		ahead := b[:len(b)-4]
		for n := range b {
			if checkUnpack(t, b[:n]) == api.OK || checkUnpack(t, b[n+1:]) == api.OK {
				t.Fatalf("%d of %d bytes are unpacked", n, len(b))
			}
		}
		for n := range ahead {
			if checkUnpack(t, summed(ahead[:n])) == api.OK {
				t.Fatalf("%d of %d bytes with their sum are unpacked", n, len(ahead))
			}
		}
		for _, more := range []string{"\x00", "\x01", "\xff", "\x00\x00\x00\x00", string(b)} {
			if checkUnpack(t, append(slices.Clone(b), more...)) == api.OK || checkUnpack(t, append([]byte(more), b...)) == api.OK && more != string(b) {
				t.Fatalf("%q beside an archive is unpacked", more)
			}
			wantRefused(t, fmt.Sprintf("%q ahead of the sum", more), summed(append(slices.Clone(ahead), more...)), api.ErrForm)
		}
	}
}

// TestUnpackTurned: with any one byte changed, or bits of 32 that stand side by side, an archive is refused by its mark or its sum.
func TestUnpackTurned(t *testing.T) {
	r := chance(3)
	logs := [][]api.Record{nil, three(), someLog(r, 20, 60), same(30, api.Record{Source: "db", Text: "disk full"})}
	for _, l := range logs {
		b := mustPack(t, someOpts(r), l...)
		for at := range b {
			want := api.ErrSum
			if at < 4 {
				want = api.ErrMagic
			} else if at == 4 {
				want = api.ErrVersion
			}
			for by := 1; by < 256; by++ {
				c := slices.Clone(b)
				c[at] ^= byte(by)
				wantRefused(t, fmt.Sprintf("%d records, byte %d changed by %d", len(l), at, by), c, want)
			}
			c := slices.Clone(b)
			for i := at; i < min(at+4, len(b)); i++ {
				c[i] = byte(r.Intn(256))
			}
			if at > 4 && !bytes.Equal(b, c) {
				wantRefused(t, fmt.Sprintf("%d records, four bytes changed from %d on", len(l), at), c, api.ErrSum)
			}
		}
	}
}

// TestUnpackOpts: options are told as they stand there, and may be for version 1.
func TestUnpackOpts(t *testing.T) {
	right := laidOf(t, small, three())
	for size := uint64(0); size < 32800; size++ {
		if size > 300 && size < 32700 && size%37 > 0 {
			continue
		}
		for flag := range byte(4) {
			b := right.with(func(x *laid) { x.size, x.plain = size, flag }).bytes()
			switch {
			case size > 32768:
				wantRefused(t, fmt.Sprint("Block ", size), b, api.ErrLimit)
			case flag > 1:
				wantRefused(t, fmt.Sprint("Plain ", flag), b, api.ErrForm)
			case size < 16:
				wantRefused(t, fmt.Sprint("Block ", size), b, api.ErrOpts)
			default:
				wantUnpacked(t, b, api.Opts{Block: int(size), Plain: flag == 1}, three(), 2)
			}
		}
	}
}

// TestUnpackBlocks: blocks are read as they stand there, in groups of any size, squeezed or not.
func TestUnpackBlocks(t *testing.T) {
	l := three()
	long := append(three(), api.Record{Text: strings.Repeat("disk ", 50)})
	of := func(frames ...[]byte) [][]byte { return frames }
	for i, c := range []struct {
		l      []api.Record
		frames [][]byte
	}{
		{l, of(frameOf(t, true, plainBytes(l...)))},
		{l, of(frameOf(t, true, plainBytes(l[:2]...)), frameOf(t, true, plainBytes(l[2])))},
		{l, of(frameOf(t, true, plainBytes(l[0])), frameOf(t, true, plainBytes(l[1])), frameOf(t, true, plainBytes(l[2])))},
		{l, of(squeezedFrame(t, plainBytes(l...)))},
		{l, of(squeezedFrame(t, plainBytes(l[0])), frameOf(t, true, plainBytes(l[1:]...)))},
		{long, of(frameOf(t, true, plainBytes(long...)))},
		{long, of(frameOf(t, false, plainBytes(long...)))},
		{long, of(frameOf(t, true, plainBytes(long[:3]...)), frameOf(t, false, plainBytes(long[3])))},
	} {
		for _, o := range rightOpts() {
			b := laidOf(t, o, c.l).with(func(x *laid) { x.frames = c.frames }).bytes()
			wantUnpacked(t, b, o, c.l, len(c.frames))
			if want := bytes.Equal(b, laidOf(t, o, c.l).bytes()); bytes.Equal(mustPack(t, o, c.l...), b) != want {
				t.Errorf("%d, %+v: the archive anew is %q", i, o, few(b))
			}
		}
	}
}

// TestUnpackFirstBlock: the error of the first block that has one is told.
func TestUnpackFirstBlock(t *testing.T) {
	l := []api.Record{{Text: xs(16)}, {Text: xs(17)}, {Text: xs(18)}, {Text: xs(19)}}
	right := laidOf(t, small, l)
	bad := []badFrame{
		{"", frameOf(t, true, []byte("\x01")), api.ErrShort},
		{"", frameOf(t, true, nil), api.ErrForm},
		{"", turned(right.frames[0], 4), api.ErrSum},
		{"", frameOf(t, true, []byte("\x00\x00\xa1\x1f")), api.ErrLimit},
		{"", rawFrame(1, 9, strings.Repeat("\x11", 200)), api.ErrCode},
		{"", rawFrame(1, 40, bitsOf(t, []api.Token{{Len: 3, Dist: 1}})), api.ErrRange},
	}
	for i := range l {
		for k := range l {
			for _, x := range bad {
				for _, y := range bad {
					b := right.with(func(z *laid) { z.frames[i], z.frames[k], z.behind = x.frame, y.frame, []byte{0} }).bytes()
					want := x.e
					if k <= i {
						want = y.e
					}
					wantRefused(t, fmt.Sprintf("blocks %d and %d", i, k), b, want)
				}
			}
		}
	}
}

// heavy tells a log that weighs 2^20 and so much more, and what it is laid of.
func heavy(t *testing.T, o api.Opts, more int) ([]api.Record, laid) {
	l := append(same(130, api.Record{Source: xs(4000), Text: xs(4000)}), api.Record{Time: 3, Source: xs(3000)}, api.Record{Time: 5, Level: 1, Text: xs(3464 + more)})
	return l, laidOf(t, o, l)
}

func TestUnpackLimit(t *testing.T) {
	for more := -2; more < 3; more++ {
		for _, o := range []api.Opts{small, {Block: 32768}, {Block: 32768, Plain: true}} {
			l, x := heavy(t, o, more)
			if more > 0 {
				wantRefused(t, fmt.Sprintf("a weight of 2^20 and %d", more), x.bytes(), api.ErrLimit)
			} else {
				wantUnpacked(t, x.bytes(), o, l, len(x.frames))
			}
		}
	}
	l, right := heavy(t, api.Opts{Block: 32768}, 1)
	last := len(right.frames) - 1
	for k := range right.frames {
		wantRefused(t, "a log that may not be, and a block's sum", right.with(func(x *laid) { x.frames[k] = turned(x.frames[k], -1) }).bytes(), api.ErrSum)
	}
	for what, change := range map[string]func(x *laid){
		"a byte left":                   func(x *laid) { x.behind = []byte{0} },
		"a record fewer than it says":   func(x *laid) { x.many++ },
		"a record more than it says":    func(x *laid) { x.many-- },
		"a block more without a record": func(x *laid) { x.frames = append(x.frames, frameOf(t, true, nil)) },
		"a block more than it says":     func(x *laid) { x.blocksBytes = plainNum(uint64(last)) },
		"a record more than was laid": func(x *laid) {
			x.frames[0] = frameOf(t, true, plainBytes(append(slices.Clone(l[:4]), api.Record{})...))
		},
	} {
		wantRefused(t, "a log that may not be, and "+what, right.with(change).bytes(), api.ErrForm)
	}
}

// TestUnpackMany: as many records and blocks as may be, and one more.
func TestUnpackMany(t *testing.T) {
	for _, n := range []int{0, 1, 127, 128, 19999, 20000} {
		l := make([]api.Record, n)
		for i := range l {
			l[i] = api.Record{Time: uint64(i * i), Level: uint8(i / 100), Source: "db", Text: strconv.Itoa(i) + " records"}
		}
		x := laidOf(t, small, l)
		if len(x.frames) != n {
			t.Fatalf("%d records have %d blocks", n, len(x.frames))
		}
		wantUnpacked(t, x.bytes(), small, l, n)
		wantRefused(t, fmt.Sprintf("%d blocks of %d records", n+1, n), x.with(func(x *laid) { x.blocksBytes = plainNum(uint64(n + 1)) }).bytes(), api.ErrLimit)
		e := api.ErrForm
		if n == 20000 {
			e = api.ErrLimit
		}
		wantRefused(t, fmt.Sprintf("%d of %d records", n, n+1), x.with(func(x *laid) { x.many++ }).bytes(), e)
	}
	x := laidOf(t, small, make([]api.Record, 20001))
	wantRefused(t, "20001 records", x.bytes(), api.ErrLimit)
	wantRefused(t, "20001 records, it says 20000", x.with(func(x *laid) { x.many = 20000 }).bytes(), api.ErrForm)
}

// TestUnpackFull: blocks of few bytes have far more records than there may be, or than the head says.
func TestUnpackFull(t *testing.T) {
	frame := frameOf(t, false, make([]byte, 32768)) // 8192 records
	of := func(blocks int, many uint64, last []byte) []byte {
		x := laid{mark: "FIRK\x01", size: 32768, many: many, frames: slices.Repeat([][]byte{frame}, blocks)}
		if last != nil {
			x.frames[blocks-1] = last
		}
		return x.bytes()
	}
	o := api.Opts{Block: 32768}
	wantUnpacked(t, of(1, 8192, nil), o, make([]api.Record, 8192), 1)
	wantUnpacked(t, of(2, 16384, nil), o, make([]api.Record, 16384), 2)
	wantUnpacked(t, of(3, 20000, frameOf(t, false, make([]byte, 4*3616))), o, make([]api.Record, 20000), 3)
	wantRefused(t, "20001 records, it says 20000", of(3, 20000, frameOf(t, false, make([]byte, 4*3617))), api.ErrForm)
	wantRefused(t, "24576 records, it says", of(3, 24576, nil), api.ErrLimit)
	for _, many := range []uint64{100, 8192, 20000} {
		wantRefused(t, "far more records than it says", of(30, many, nil), api.ErrForm)
		wantRefused(t, "far more records than it says, and a sum", of(30, many, turned(frame, -1)), api.ErrSum)
		wantRefused(t, "far more records than it says, and a text", of(30, many, frameOf(t, true, []byte("\x00\x00\xa1\x1f"))), api.ErrLimit)
	}
}

// changed tells bytes with one taken out, put in, or made another one.
func changed(b []byte, how, at int, to byte) []byte {
	b = slices.Clone(b)
	switch how {
	case 0:
		return slices.Delete(b, at, at+1)
	case 1:
		return slices.Insert(b, at, to%4)
	case 2:
		b[at] ^= 1 << (to % 8)
	case 3:
		b[at]++
	case 4:
		b[at]--
	}
	return b
}

// TestUnpackChance: what archives are laid of is changed in places, with sums that are right, or not.
func TestUnpackChance(t *testing.T) {
	r := chance(4)
	seen := map[api.Errno]int{}
	some := func(b []byte) []byte {
		if len(b) == 0 {
			return []byte{byte(r.Intn(3))}
		}
		return changed(b, r.Intn(5), r.Intn(len(b)), byte(r.Intn(256)))
	}
	for range 60000 {
		o := someOpts(r)
		x := laidOf(t, o, someLog(r, 5, 12)).with(func(x *laid) {
			for range r.Intn(3) {
				k := r.Intn(len(x.frames) + 1)
				switch what := r.Intn(8); {
				case what == 0:
					x.blocksBytes = plainNum(uint64(r.Intn(8)))
				case what == 1:
					x.many = uint64(r.Intn(8))
				case what == 2:
					x.size = uint64(r.Intn(40))
				case what == 3:
					x.plain = byte(r.Intn(3))
				case what == 4:
					x.last = func(b []byte) []byte { return summed(some(b[:len(b)-4])) }
				case k == len(x.frames):
				case what == 5:
					x.frames[k] = some(x.frames[k])
				case what == 6:
					raw, _, _ := block.Read(x.frames[k])
					x.frames[k] = frameOf(t, o.Plain, some(raw))
				case what == 7:
					raw, _, _ := block.Read(x.frames[k])
					x.frames[k] = squeezedFrame(t, raw)
				}
			}
		})
		b := x.bytes()
		if r.Intn(8) == 0 {
			b = some(b)
		}
		seen[checkUnpack(t, b)]++
	}
	for _, e := range []api.Errno{api.OK, api.ErrShort, api.ErrForm, api.ErrMagic, api.ErrVersion, api.ErrSum, api.ErrLimit, api.ErrOpts} {
		if seen[e] < 50 {
			t.Error("error", e, "is seldom seen:", seen)
		}
	}
}

// TestUnpackAny: any bytes, most with a mark and a right sum.
func TestUnpackAny(t *testing.T) {
	r := chance(5)
	for range 100000 {
		b := make([]byte, r.Intn(30))
		for i := range b {
			b[i] = byte(r.Intn(256) >> r.Intn(8))
		}
		if r.Intn(10) > 0 {
			b = append([]byte("FIRK\x01"), b...)
		}
		if r.Intn(10) > 0 {
			b = summed(b)
		}
		checkUnpack(t, b)
	}
}

// P21.3

// TestAnew: what is unpacked is packed to an archive that is unpacked to the same; just those that were packed are the same bytes.
func TestAnew(t *testing.T) {
	r := chance(6)
	anew, other := 0, 0
	for range 5000 {
		o, l := someOpts(r), someLog(r, 6, 30)
		x := laidOf(t, o, l)
		canonical := true
		if r.Intn(2) == 0 {
			x.size, x.plain = uint64(someOpts(r).Block), byte(r.Intn(2))
			canonical = bytes.Equal(x.bytes(), laidOf(t, api.Opts{Block: int(x.size), Plain: x.plain == 1}, l).bytes())
		}
		b := x.bytes()
		o, got, blocks, e := Unpack(b)
		if e != api.OK || !slices.Equal(got, l) || blocks != len(x.frames) {
			t.Fatalf("%q: %v, %d blocks, error %d", b, got, blocks, e)
		}
		again := mustPack(t, o, got...)
		wantUnpacked(t, again, o, l, len(plainGroups(o.Block, l)))
		if bytes.Equal(b, again) != canonical {
			t.Fatalf("%+v, %v: of %q is made %q", o, l, b, again)
		}
		if canonical {
			anew++
		} else {
			other++
		}
	}
	if anew < 500 || other < 500 {
		t.Errorf("%d are the same anew, %d others", anew, other)
	}
}

// full tells logs that may just be: as many records as may be, of empty ones and of such as have 2^20 bytes in all.
func full() map[string][]api.Record {
	r := chance(7)
	text := func(n int) string {
		b := make([]byte, n)
		r.Read(b)
		return string(b)
	}
	var short, any []api.Record
	for range 20000 {
		short = append(short, api.Record{Time: r.Uint64(), Level: uint8(r.Intn(256)), Source: text(12), Text: text(24)})
	}
	for range 130 {
		any = append(any, api.Record{Time: r.Uint64(), Level: uint8(r.Intn(256)), Source: text(4000), Text: text(4000)})
	}
	return map[string][]api.Record{
		"empty ones":     make([]api.Record, 20000),
		"short ones":     short,
		"alike":          same(261, api.Record{Source: "a", Text: xs(3999)}),
		"sources alone":  append(same(261, api.Record{Source: xs(4000)}), api.Record{Source: xs(384)}),
		"any bytes":      append(any, api.Record{Source: text(3000), Text: text(3464)}, api.Record{}),
		"one, the whole": {{Time: math.MaxUint64, Level: 255, Source: text(4000), Text: text(4000)}},
	}
}

func TestFull(t *testing.T) {
	for what, l := range full() {
		for _, o := range []api.Opts{small, {Block: 32768, Plain: true}, {Block: 32768}} {
			b := mustPack(t, o, l...)
			x := laidOf(t, o, l)
			if !bytes.Equal(b, x.bytes()) {
				t.Errorf("%s, %+v: %d bytes are others", what, o, len(b))
			}
			wantUnpacked(t, b, o, l, len(x.frames))
			o.Plain = true
			if plain := mustPack(t, o, l...); len(b) > len(plain) {
				t.Errorf("%s, Block %d: %d bytes, plain %d", what, o.Block, len(b), len(plain))
			}
		}
	}
}

// What holds everywhere

// TestLogsStay: logs that are handed in stay, their spare room, too; what is packed is apart from what else is packed.
func TestLogsStay(t *testing.T) {
	r := chance(8)
	for range 300 {
		o, l := someOpts(r), someLog(r, 8, 20)
		whole := append(slices.Clone(l), api.Record{Text: "spare"}, api.Record{Text: "room"})
		before := slices.Clone(whole)
		b := mustPack(t, o, whole[:len(l)]...)
		other := mustPack(t, o, whole[:len(l)]...)
		clear(other[:cap(other)])
		if !slices.Equal(whole, before) {
			t.Fatal("a log is changed")
		}
		clear(whole)
		if !bytes.Equal(b, laidOf(t, o, l).bytes()) {
			t.Fatal("an archive hangs together with a log, or with others")
		}
	}
}

// TestBytesStay: bytes that are handed in stay, their spare room, too, and what is unpacked is apart from them, and from what else is.
func TestBytesStay(t *testing.T) {
	r := chance(9)
	for range 300 {
		o, l := someOpts(r), someLog(r, 8, 20)
		b := mustPack(t, o, l...)
		whole := append(slices.Clone(b), "spare room"...)
		before := slices.Clone(whole)
		_, got, _, _ := Unpack(whole[:len(b)])
		_, other, _, _ := Unpack(whole[:len(b)])
		if !bytes.Equal(whole, before) {
			t.Fatal("bytes are changed")
		}
		clear(other[:cap(other)])
		clear(whole)
		if !slices.Equal(got, l) {
			t.Fatal("a log hangs together with bytes, or with another one")
		}
	}
}
