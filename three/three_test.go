package three

import (
	"bytes"
	"fmt"
	"math"
	"math/bits"
	"math/rand"
	"slices"
	"sort"
	"strings"
	"testing"

	"firkin/api"
	"firkin/block"
	"firkin/body"
	"firkin/lz"
	"firkin/recs"
	"firkin/stripe"
	"firkin/toks"
)

// small are the options of most archives here: a block of 16 bytes, buckets of one term, and stripes of two chunks of 16 bytes with three of parity.
var small = api.Opts{Block: 16, Bucket: 1, Data: 2, Parity: 3, Chunk: 16}

// trio is a log of two blocks, of one record and of two, by those options.
func trio() []api.Record {
	return []api.Record{
		{Time: 9, Level: 1, Source: "db", Text: "disk full"},
		{Time: 7, Level: 1, Source: "web", Text: "GET /a"},
		{Time: 8, Level: 3, Text: "ok"},
	}
}

// emptyBody is the body of no records: chapter 20's example.
func emptyBody() string {
	return "\x00\x00\x00\x00" + "\x00\x8d\xef\x02\xd2" + string(summed([]byte("\x00\x00\x04\x05"))) + "\x08\x00\x00\x00"
}

// sealed tells bytes with their sum, as texts.
func sealed(s string) string { return string(summed([]byte(s))) }

// P24.1

// TestPackHead: the chapter's example of a head, of a body that has 300 bytes.
func TestPackHead(t *testing.T) {
	o := api.Opts{Block: 16, Bucket: 1, Data: 2, Parity: 1, Chunk: 8}
	r := chance(1)
	for range 10000 {
		l := someLog(r, 8, 40)
		if len(mustMake(t, o, l...)) != 300 {
			continue
		}
		b := mustPack(t, o, l...)
		want := sealed("FIRK\x03\x00\x01\x02\x01\x08\x00\x10\x00\x2c\x01\x00\x00")
		if string(b[:21]) != want || string(b[len(b)-21:]) != want || len(b) != 21+19*3*12+21 {
			t.Fatalf("%q", b)
		}
		return
	}
	t.Error("no body has 300 bytes")
}

func TestPackByHand(t *testing.T) {
	e := emptyBody()
	pad := func(n int) string { return strings.Repeat("\x00", n) }
	for _, c := range []struct {
		o    api.Opts
		want []string
	}{
		{api.Opts{Block: 16, Bucket: 1, Data: 1, Chunk: 4}, []string{
			"FIRK\x03\x00\x01\x01\x00\x04\x00\x10\x00\x15\x00\x00\x00",
			e[:4], e[4:8], e[8:12], e[12:16], e[16:20], e[20:] + pad(3),
		}},
		{api.Opts{Block: 32768, Plain: true, Bucket: 64, Data: 1, Parity: 2, Chunk: 12}, []string{
			"FIRK\x03\x01\x40\x01\x02\x0c\x00\x00\x80\x15\x00\x00\x00",
			e[:12], e[:12], times(142, e[:12]), e[12:] + pad(3), e[12:] + pad(3), times(142, e[12:]+pad(3)),
		}},
		{api.Opts{Block: 1024, Bucket: 16, Data: 4, Chunk: 258}, []string{
			"FIRK\x03\x00\x10\x04\x00\x02\x01\x00\x04\x15\x00\x00\x00",
			e + pad(237), pad(258), pad(258), pad(258),
		}},
		{api.Opts{Block: 513, Bucket: 2, Data: 2, Parity: 1, Chunk: 16}, []string{
			"FIRK\x03\x00\x02\x02\x01\x10\x00\x01\x02\x15\x00\x00\x00",
			e[:16], e[16:] + pad(11), plus(times(142, e[:16]), times(244, e[16:]+pad(11))),
		}},
	} {
		var want strings.Builder
		for _, x := range c.want {
			want.WriteString(sealed(x))
		}
		want.WriteString(sealed(c.want[0]))
		if b, e := Pack(c.o); e != api.OK || string(b) != want.String() {
			t.Errorf("%+v: %q, error %d, not %q", c.o, b, e, want.String())
		}
		wantUnpacked(t, "by hand", []byte(want.String()), c.o, nil, 0, 0)
	}
}

// TestPackLogByHand: three records, in a body that is told by hand.
func TestPackLogByHand(t *testing.T) {
	frame := func(raw string) string {
		return sealed("\x00" + string(rune(len(raw))) + string(rune(len(raw))) + raw)
	}
	inner := frame("\x02db\x09disk full") + frame("\x03web\x06GET /a"+"\x00\x02ok") +
		sealed("\x12\x03\x02"+"\x01\x02\x03\x01") +
		sealed("\x07"+"\x04\x05\x02\x05\x05\x04\x03"+"\x03@db\x04@web\x01a\x04disk\x04full\x03get\x02ok"+"\x01\x40\x01\xc0\x01\xc0\x01\x40\x01\x40\x01\xc0\x01\x20") +
		sealed("\x03\x02"+"\x01\x14"+"\x02\x16"+"\x0b\x36") + "\x0c\x00\x00\x00"
	head := sealed("FIRK\x03\x00\x01\x01\x01\xff\x00\x10\x00" + string(rune(len(inner))) + "\x00\x00\x00")
	chunk := sealed(inner + strings.Repeat("\x00", 255-len(inner)))
	o := api.Opts{Block: 16, Bucket: 1, Data: 1, Parity: 1, Chunk: 255}
	if b, e := Pack(o, trio()...); e != api.OK || string(b) != head+chunk+chunk+head || len(inner) > 127 {
		t.Errorf("%q, error %d, not %q", b, e, head+chunk+chunk+head)
	}
	wantUnpacked(t, "by hand", []byte(head+chunk+chunk+head), o, trio(), 2, 0)
}

func TestPackAll(t *testing.T) {
	r := chance(2)
	for range 600 {
		wantPack(t, someOpts(r), someLog(r, 12, 12)...)
	}
	for range 60 {
		wantPack(t, someOpts(r), someLog(r, 60, 200)...)
	}
}

// edge tells options that may be, but for a change.
func edge(change func(o *api.Opts)) api.Opts {
	o := small
	change(&o)
	return o
}

// wrongOpts are options that may not be.
func wrongOpts() []api.Opts {
	out := []api.Opts{
		{}, {Plain: true},
		{Block: 16}, {Block: 1024, Plain: true}, // of version 1
		{Block: 16, Bucket: 1}, {Block: 1024, Plain: true, Bucket: 16}, // of version 2
		{Block: 16, Bucket: 1, Data: 1}, {Block: 16, Bucket: 1, Chunk: 1}, {Block: 16, Bucket: 1, Parity: 1, Chunk: 1},
		{Block: 16, Data: 1, Chunk: 1}, {Bucket: 1, Data: 1, Chunk: 1}, {Data: 4, Parity: 2, Chunk: 64},
		edge(func(o *api.Opts) { o.Data, o.Parity = 128, 128 }),
		edge(func(o *api.Opts) { o.Data, o.Parity = 255, 1 }),
		edge(func(o *api.Opts) { o.Data, o.Parity = 1, 255 }),
		edge(func(o *api.Opts) { o.Data, o.Parity = 256, -1 }),
		edge(func(o *api.Opts) { o.Data, o.Parity = -1, 256 }),
		edge(func(o *api.Opts) { o.Data, o.Parity = math.MaxInt, math.MaxInt }),
		edge(func(o *api.Opts) { o.Data, o.Parity = math.MinInt, math.MinInt }),
	}
	far := []int{math.MinInt, -1 << 32, -16, -1, 1<<16 + 16, 1<<32 + 1, 1<<32 + 16, math.MaxInt}
	for _, n := range append(far, 0, 1, 15, 32769) {
		out = append(out, edge(func(o *api.Opts) { o.Block = n }), edge(func(o *api.Opts) { o.Block, o.Plain = n, true }))
	}
	for _, n := range append(far, 0, 65, 66, 256, 257) {
		out = append(out, edge(func(o *api.Opts) { o.Bucket = n }), edge(func(o *api.Opts) { o.Bucket, o.Plain = n, true }))
	}
	for _, n := range append(far, 0, 253, 256, 257, 258) {
		out = append(out, edge(func(o *api.Opts) { o.Data = n }))
	}
	for _, n := range append(far, 254, 256, 257) {
		out = append(out, edge(func(o *api.Opts) { o.Parity = n }))
	}
	for _, n := range append(far, 0, 4097, 1<<16, 1<<16+1) {
		out = append(out, edge(func(o *api.Opts) { o.Chunk = n }))
	}
	return out
}

// shapes are data, parity and chunk of options that may be.
func shapes() []api.Opts {
	return []api.Opts{
		{Data: 1, Chunk: 1}, {Data: 1, Parity: 1, Chunk: 1}, {Data: 4, Parity: 2, Chunk: 64}, {Data: 3, Parity: 1, Chunk: 255}, {Data: 2, Parity: 2, Chunk: 256},
		{Data: 255, Chunk: 1}, {Data: 254, Parity: 1, Chunk: 2}, {Data: 1, Parity: 254, Chunk: 3}, {Data: 128, Parity: 127, Chunk: 5}, {Data: 1, Chunk: 4096}, {Data: 2, Parity: 1, Chunk: 4095},
	}
}

// rightOpts are options that may be.
func rightOpts() []api.Opts {
	var out []api.Opts
	for _, o := range shapes() {
		for _, o.Block = range []int{16, 17, 255, 256, 1024, 32767, 32768} {
			for _, o.Bucket = range []int{1, 16, 64} {
				o.Plain = !o.Plain
				out = append(out, o)
			}
		}
	}
	return out
}

func TestPackOpts(t *testing.T) {
	for _, o := range wrongOpts() {
		for _, l := range [][]api.Record{nil, trio()} {
			if b, e := Pack(o, l...); e != api.ErrOpts || len(b) != 0 {
				t.Errorf("%+v: %q, error %d", o, b, e)
			}
		}
	}
	for _, o := range rightOpts() {
		wantPack(t, o)
		wantPack(t, o, trio()...)
	}
}

// TestPackParts: all data and parity that may be, and those beside them.
func TestPackParts(t *testing.T) {
	for data := -1; data <= 257; data++ {
		for parity := -1; parity <= 257; parity++ {
			sum := data + parity
			if data > 2 && parity > 1 && sum < 254 || sum > 257 {
				continue
			}
			o := edge(func(o *api.Opts) { o.Data, o.Parity, o.Chunk = data, parity, 1 })
			b, e := Pack(o)
			switch {
			case !plainMay(o):
				if e != api.ErrOpts || len(b) != 0 {
					t.Errorf("%+v: %d bytes, error %d", o, len(b), e)
				}
			case e != api.OK || !bytes.Equal(b, laidOf(t, o, []byte(emptyBody())).bytes()):
				t.Errorf("%+v: %d bytes, error %d", o, len(b), e)
			}
		}
	}
}

// tooMuch are logs that may not be.
func tooMuch() map[string][]api.Record {
	return map[string][]api.Record{
		"20001 records":            make([]api.Record, 20001),
		"a text of 4001 bytes":     {{}, {Text: xs(4001)}},
		"a source of 4001 bytes":   {{Source: xs(4001)}, {}},
		"a weight of 2^20 and 1":   append(same(261, api.Record{Text: xs(4000)}), api.Record{Text: xs(385)}),
		"a weight of 2^20 and 16":  append(same(261, api.Record{Text: xs(4000)}), api.Record{Text: xs(384)}, api.Record{}),
		"far more than may be":     same(1<<16, api.Record{Text: xs(4001)}),
		"a text of 2^20 bytes":     {{Text: xs(1 << 20)}},
		"a text of 2^16 and more":  {{Text: xs(1<<16 + 1)}},
		"a source of 2^24 and one": {{Source: xs(1<<24 + 1)}},
	}
}

func TestPackLimits(t *testing.T) {
	for what, l := range tooMuch() {
		for _, o := range rightOpts() {
			if b, e := Pack(o, l...); e != api.ErrLimit || len(b) != 0 {
				t.Fatalf("%s, %+v: %d bytes, error %d", what, o, len(b), e)
			}
		}
		for _, o := range wrongOpts() {
			if b, e := Pack(o, l...); e != api.ErrOpts || len(b) != 0 {
				t.Fatalf("%s, %+v: %d bytes, error %d", what, o, len(b), e)
			}
		}
	}
}

// logOfBody tells a log whose body has n bytes, with plain blocks.
func logOfBody(t *testing.T, o api.Opts, n int) []api.Record {
	t.Helper()
	o.Plain = true
	of := func(many, text int) []api.Record {
		return append(same(many, api.Record{Text: strings.Repeat("-", 3900)}), api.Record{Text: strings.Repeat("-", text)})
	}
	enough := func(many, text int) bool { return len(mustMake(t, o, of(many, text)...)) >= n }
	many := sort.Search(260, func(many int) bool { return enough(many, 4000) })
	l := of(many, sort.Search(4000, func(text int) bool { return enough(many, text) }))
	if long := len(mustMake(t, o, l...)); long != n {
		t.Fatalf("a body of %d bytes has %d", n, long)
	}
	return l
}

// TestPackLaid: a body that has just 2^24 bytes laid out may be, and as few as fit, but none of more.
func TestPackLaid(t *testing.T) {
	for _, c := range []struct {
		data, parity, chunk, most int
	}{
		{1, 63, 252, 252 << 10}, // 2^24 bytes
		{1, 254, 4096, 16 * 4096},
		{3, 252, 4096, 16 * 3 * 4096},
		{1, 254, 1, 13158},
		{5, 250, 100, 632 * 5 * 100},
	} {
		o := api.Opts{Block: 32768, Plain: true, Bucket: 1, Data: c.data, Parity: c.parity, Chunk: c.chunk}
		for more := -1; more < 3; more++ {
			l := logOfBody(t, o, c.most+more)
			b, e := Pack(o, l...)
			size, sizeE := stripe.Size(c.data, c.parity, c.chunk, c.most+more)
			if more > 0 {
				if e != api.ErrLimit || len(b) != 0 || sizeE != api.ErrLimit {
					t.Errorf("%+v, %d bytes: %d laid out, error %d", o, c.most+more, len(b), e)
				}
				continue
			}
			if e != api.OK || sizeE != api.OK || len(b) != 42+size {
				t.Fatalf("%+v, %d bytes: %d laid out, error %d", o, c.most+more, len(b), e)
			}
			wantMended(t, "much", b, b, 0)
			wantUnpacked(t, "much", b, o, l, len(recs.Groups(o.Block, false, l...)), 0)
		}
		for what, l := range tooMuch() {
			if b, e := Pack(o, l...); e != api.ErrLimit || len(b) != 0 {
				t.Fatalf("%s, %+v: %d bytes, error %d", what, o, len(b), e)
			}
		}
	}
}

// full tells logs that may just be.
func full() map[string][]api.Record {
	r := chance(3)
	text := func(n int) string {
		b := make([]byte, n)
		r.Read(b)
		return string(b)
	}
	var short, any, wordy []api.Record
	for range 20000 {
		short = append(short, api.Record{Time: r.Uint64(), Level: uint8(r.Intn(256)), Source: text(12), Text: text(24)})
	}
	for range 130 {
		any = append(any, api.Record{Time: r.Uint64(), Level: uint8(r.Intn(256)), Source: text(4000), Text: text(4000)})
	}
	for i := range 261 {
		var s strings.Builder
		for k := range 800 {
			n := 800*i + k
			s.Write([]byte{byte('a' + n%26), byte('a' + n/26%26), byte('a' + n/676%26), byte('a' + n/17576%26), ' '})
		}
		wordy = append(wordy, api.Record{Time: r.Uint64(), Text: s.String()})
	}
	return map[string][]api.Record{
		"empty ones":  make([]api.Record, 20000),
		"short ones":  short,
		"alike":       same(261, api.Record{Source: "a", Text: xs(3999)}),
		"any bytes":   append(any, api.Record{Source: text(3000), Text: text(3464)}, api.Record{}),
		"other words": append(wordy, api.Record{Text: xs(384)}),
	}
}

func TestPackFull(t *testing.T) {
	for what, l := range full() {
		for _, o := range []api.Opts{
			{Block: 16, Bucket: 1, Data: 4, Parity: 2, Chunk: 64},
			{Block: 32768, Plain: true, Bucket: 16, Data: 255, Chunk: 4096},
			{Block: 1024, Bucket: 64, Data: 20, Parity: 20, Chunk: 1000},
		} {
			b := mustPack(t, o, l...)
			if !bytes.Equal(b, laidOf(t, o, mustMake(t, o, l...)).bytes()) {
				t.Errorf("%s, %+v: %d bytes are others", what, o, len(b))
			}
			if got, log, _, n, e := Unpack(b); got != o || !slices.Equal(log, l) || n != 0 || e != api.OK {
				t.Errorf("%s, %+v: %+v, %d records, number %d, error %d", what, o, got, len(log), n, e)
			}
		}
	}
}

// P24.2

func TestHas(t *testing.T) {
	right := toldOf(small, 9).bytes()
	other := told{mark: "FIRK\x03", plain: 77, chunk: 1<<16 - 1, long: 1<<32 - 1}.bytes()
	nothing := make([]byte, 21)
	for _, c := range []struct {
		what        string
		first, last []byte
		want        bool
	}{
		{"both", right, right, true},
		{"the first", right, nothing, true},
		{"the last", nothing, right, true},
		{"none", nothing, nothing, false},
		{"another one", other, nothing, true},
		{"another one at last", nothing, other, true},
		{"two that are unlike", right, other, true},
		{"one of version 1", summed(append([]byte("FIRK\x01"), right[5:17]...)), nothing, false},
		{"one of version 2", nothing, summed(append([]byte("FIRK\x02"), right[5:17]...)), false},
		{"ones of no version", summed(append([]byte("FIRK\x04"), right[5:17]...)), summed(append([]byte("FIRK\x00"), right[5:17]...)), false},
		{"ones of other marks", summed(append([]byte("FIRk\x03"), right[5:17]...)), summed(append([]byte("firk\x03"), right[5:17]...)), false},
		{"one of version 2, and one that counts", summed(append([]byte("FIRK\x02"), right[5:17]...)), right, true},
		{"one that counts, and one of version 1", right, summed(append([]byte("FIRK\x01"), right[5:17]...)), true},
		{"sums of nothing but the mark", append(summed([]byte("FIRK\x03")), nothing[9:]...), append(nothing[:12:12], summed([]byte("FIRK\x03"))...), false},
	} {
		for _, mid := range [][]byte{nil, {0}, {0x10, 0x20}, right, bytes.Repeat([]byte{7}, 1000)} {
			b := slices.Concat(c.first, mid, c.last)
			if has := Has(b); has != c.want || has != plainHas(b) {
				t.Errorf("%s, %d bytes between: %t", c.what, len(mid), has)
			}
		}
	}
	for _, mid := range [][]byte{nil, {0}, right, slices.Concat(right, right, right)} {
		if b := slices.Concat(nothing, mid, nothing); Has(b) {
			t.Errorf("a copy that is neither the first bytes nor the last, %d bytes between", len(mid))
		}
	}
}

// TestHasShort: of fewer than 42 bytes there is no head, not even where the first 21 and the last 21 are right.
func TestHasShort(t *testing.T) {
	c := toldOf(small, 9).bytes()
	for n := range 42 {
		for _, b := range [][]byte{slices.Concat(c, c)[:n], slices.Concat(c, c)[42-n:], slices.Concat(c, make([]byte, 42))[:n], slices.Concat(make([]byte, 42), c)[63-n:]} {
			if Has(b) {
				t.Errorf("%d bytes have a head", len(b))
			}
			wantRefused(t, fmt.Sprint(len(b), " bytes"), b, api.ErrShort)
		}
	}
	if Has(nil) || !Has(slices.Concat(c, c)) || !Has(slices.Concat(c, c, c)[:42]) {
		t.Error("42 bytes have none, or no bytes have one")
	}
}

// TestHasEachByte: a copy with another byte doesn't count; the other copy does.
func TestHasEachByte(t *testing.T) {
	c := toldOf(small, 9).bytes()
	for at := range c {
		for x := range 256 {
			changed := slices.Clone(c)
			changed[at] = byte(x)
			same := byte(x) == c[at]
			if Has(slices.Concat(changed, changed)) != same || !Has(slices.Concat(changed, c)) || !Has(slices.Concat(c, changed)) {
				t.Errorf("the byte %d is %d", at, x)
			}
			whole := slices.Clone(c[:17])
			if at < 17 {
				whole[at] = byte(x)
			}
			if Has(slices.Concat(summed(whole), changed)) != (same || at >= 5) {
				t.Errorf("the byte %d is %d, with its sum", at, x)
			}
		}
	}
}

// P24.3

// copyModes are the ways in which a head may be told: by both copies, or by one of them.
func copyModes() map[string]func(x *laid) {
	return map[string]func(x *laid){
		"both copies": func(x *laid) {},
		"the first":   func(x *laid) { x.last = spoilt },
		"the last":    func(x *laid) { x.first = spoilt },
	}
}

// fault is something wrong with what an archive is laid of, and the error that tells it.
type fault struct {
	what string
	e    api.Errno
	do   func(x *laid)
}

// headIs tells a fault: the head says something else.
func headIs(what string, e api.Errno, change func(h *told)) fault {
	return fault{what, e, func(x *laid) { change(&x.head) }}
}

// midIs tells a fault: what stands between the copies is something else.
func midIs(what string, e api.Errno, change func(b []byte) []byte) fault {
	return fault{what, e, func(x *laid) { x.mid = change(x.mid) }}
}

// endIs tells a fault: all of it is something else.
func endIs(what string, e api.Errno, end func(b []byte) []byte) fault {
	return fault{what, e, func(x *laid) { x.end = end }}
}

// noCopy tells a fault: no copy counts.
func noCopy(what string, of func(c []byte) []byte) fault {
	return fault{what, api.ErrSum, func(x *laid) { x.first, x.last = of, of }}
}

// marked tells what makes a copy one of another mark, with its sum.
func marked(mark string) func(c []byte) []byte {
	return func(c []byte) []byte { return summed(append([]byte(mark), c[5:17]...)) }
}

// longIs tells a fault: so many bytes the body has, says the head.
func longIs(long uint32, e api.Errno) fault {
	return headIs(fmt.Sprintf("a body of %d bytes", long), e, func(h *told) { h.long = long })
}

// chunkAt tells the bytes of a chunk with its sum, of those options that are small.
func chunkAt(b []byte, number int) []byte { return b[number*20:][:20] }

// swapped changes the places of two chunks.
func swapped(b []byte, i, j int) []byte {
	was := slices.Clone(chunkAt(b, i))
	copy(chunkAt(b, i), chunkAt(b, j))
	copy(chunkAt(b, j), was)
	return b
}

// lost spoils chunks.
func lost(numbers ...int) func(b []byte) []byte {
	return func(b []byte) []byte {
		for _, n := range numbers {
			chunkAt(b, n)[n%20] ^= 16
		}
		return b
	}
}

// mendFaults are of mending the archive of trio; those of one row of the table are told ahead of those of a later one.
func mendFaults() [][]fault {
	// The last bytes or the first ones are left, and no copy is whole but by them.
	to := func(n int) func(b []byte) []byte { return func(b []byte) []byte { return b[:n] } }
	from := func(n int) func(b []byte) []byte { return func(b []byte) []byte { return b[len(b)-n:] } }
	return [][]fault{
		{
			endIs("no bytes", api.ErrShort, to(0)), endIs("a byte", api.ErrShort, to(1)), endIs("20 bytes", api.ErrShort, to(20)),
			endIs("a copy", api.ErrShort, to(21)), endIs("41 bytes", api.ErrShort, to(41)),
			endIs("the last copy", api.ErrShort, from(21)), endIs("the last 41 bytes", api.ErrShort, from(41)),
			endIs("both copies, but for a byte", api.ErrShort, func(b []byte) []byte { return append(b[:21:21], b[len(b)-20:]...) }),
			endIs("41 other bytes", api.ErrShort, func(b []byte) []byte { return make([]byte, 41) }),
		},
		{
			noCopy("both sums", spoilt),
			noCopy("both marks of 1", marked("FIRK\x01")), noCopy("both marks of 2", marked("FIRK\x02")), noCopy("both marks of 4", marked("FIRK\x04")), noCopy("both marks of another kind", marked("KRIF\x03")),
			noCopy("no copies", func(c []byte) []byte { return make([]byte, 21) }),
			noCopy("sums of the bytes behind the mark", func(c []byte) []byte { return append(c[:5:5], summed(c[5:17])...) }),
			noCopy("sums, the highest byte first", func(c []byte) []byte {
				slices.Reverse(c[17:])
				return c
			}),
			{"the first mark, the last sum", api.ErrSum, func(x *laid) { x.first, x.last = marked("FIRK\x02"), spoilt }},
			{"the first sum, the last mark", api.ErrSum, func(x *laid) { x.first, x.last = spoilt, marked("FIRK\x01") }},
			endIs("a byte ahead and one behind", api.ErrSum, func(b []byte) []byte { return slices.Concat([]byte{0}, b, []byte{0}) }),
			endIs("the first byte is the last one", api.ErrSum, func(b []byte) []byte { return append(b[1:], b[0]) }),
		},
		{
			headIs("Plain is 2", api.ErrForm, func(h *told) { h.plain = 2 }), headIs("Plain is 3", api.ErrForm, func(h *told) { h.plain = 3 }),
			headIs("Plain is 128", api.ErrForm, func(h *told) { h.plain = 128 }), headIs("Plain is 255", api.ErrForm, func(h *told) { h.plain = 255 }),
		},
		{
			headIs("Bucket is 0", api.ErrOpts, func(h *told) { h.bucket = 0 }), headIs("Bucket is 65", api.ErrOpts, func(h *told) { h.bucket = 65 }), headIs("Bucket is 255", api.ErrOpts, func(h *told) { h.bucket = 255 }),
			headIs("Data is 0", api.ErrOpts, func(h *told) { h.data = 0 }), headIs("Data is 253", api.ErrOpts, func(h *told) { h.data = 253 }),
			headIs("Parity is 254", api.ErrOpts, func(h *told) { h.parity = 254 }), headIs("Parity is 255", api.ErrOpts, func(h *told) { h.parity = 255 }),
			headIs("Data and Parity are 128", api.ErrOpts, func(h *told) { h.data, h.parity = 128, 128 }),
			headIs("Chunk is 0", api.ErrOpts, func(h *told) { h.chunk = 0 }), headIs("Chunk is 4097", api.ErrOpts, func(h *told) { h.chunk = 4097 }), headIs("Chunk is 65535", api.ErrOpts, func(h *told) { h.chunk = 65535 }),
			headIs("Block is 0", api.ErrOpts, func(h *told) { h.size = 0 }), headIs("Block is 15", api.ErrOpts, func(h *told) { h.size = 15 }), headIs("Block is 32769", api.ErrOpts, func(h *told) { h.size = 32769 }), headIs("Block is 65535", api.ErrOpts, func(h *told) { h.size = 65535 }),
		},
		{
			longIs(1<<23+1, api.ErrArg), longIs(1<<24, api.ErrArg), longIs(1<<31-1, api.ErrArg), longIs(1<<31, api.ErrArg), longIs(1<<31+9, api.ErrArg), longIs(1<<32-1, api.ErrArg),
			longIs(1<<23, api.ErrLimit), longIs(5368704+1, api.ErrLimit), longIs(1<<23-1, api.ErrLimit),
		},
		{
			longIs(5368704, api.ErrShort), longIs(129, api.ErrShort), longIs(256, api.ErrShort), longIs(1<<16, api.ErrShort),
			longIs(0, api.ErrForm), longIs(1, api.ErrForm), longIs(96, api.ErrForm),
			midIs("a byte is missing", api.ErrShort, func(b []byte) []byte { return b[1:] }),
			midIs("a chunk is missing", api.ErrShort, func(b []byte) []byte { return b[20:] }),
			midIs("a stripe is missing", api.ErrShort, func(b []byte) []byte { return b[:len(b)-100] }),
			midIs("all stripes are missing", api.ErrShort, func(b []byte) []byte { return nil }),
			midIs("a byte more", api.ErrForm, func(b []byte) []byte { return append(b, 0) }),
			midIs("a byte ahead", api.ErrForm, func(b []byte) []byte { return append([]byte{0}, b...) }),
			midIs("a chunk more", api.ErrForm, func(b []byte) []byte { return append(b, b[:20]...) }),
			midIs("a stripe more", api.ErrForm, func(b []byte) []byte { return append(b, b[:100]...) }),
			midIs("a head more", api.ErrForm, func(b []byte) []byte { return append(b, toldOf(small, len(b)).bytes()...) }),
			endIs("a byte more behind the last copy", api.ErrForm, func(b []byte) []byte { return append(b, 0) }),
			endIs("a byte more ahead of the first copy", api.ErrForm, func(b []byte) []byte { return append([]byte{0}, b...) }),
			endIs("no last copy", api.ErrShort, func(b []byte) []byte { return b[:len(b)-21] }),
			endIs("no first copy", api.ErrShort, func(b []byte) []byte { return b[21:] }),
		},
		{
			midIs("four chunks of the first stripe are lost", api.ErrDamage, lost(0, 1, 2, 3)),
			midIs("all chunks of the second stripe are lost", api.ErrDamage, lost(5, 6, 7, 8, 9)),
			midIs("four chunks of the last stripe are lost", api.ErrDamage, lost(15, 16, 18, 19)),
			midIs("two chunks change places", api.ErrForm, func(b []byte) []byte { return swapped(b, 0, 1) }),
			midIs("two chunks of two stripes change places", api.ErrForm, func(b []byte) []byte { return swapped(b, 4, 14) }),
			midIs("a chunk of parity is another one", api.ErrForm, func(b []byte) []byte {
				copy(chunkAt(b, 19), summed([]byte("sixteen bytes ..")))
				return b
			}),
		},
	}
}

// worksIn tells whether a fault is one in this mode: what is put ahead of a copy, or behind it, or is taken away, leaves no copy where just that one counts.
func worksIn(mode, what string) bool {
	switch what {
	case "a byte more behind the last copy", "no last copy":
		return mode != "the last"
	case "a byte more ahead of the first copy", "no first copy":
		return mode != "the first"
	}
	return true
}

func trioLaid(t testing.TB) laid { return laidOf(t, small, mustMake(t, small, trio()...)) }

func TestMendFaults(t *testing.T) {
	right := trioLaid(t)
	if right.head.long != 123 || len(right.mid) != 400 {
		t.Fatalf("the body has %d bytes, %d laid out", right.head.long, len(right.mid))
	}
	for mode, as := range copyModes() {
		want, bad := right.bytes(), 1
		if mode == "both copies" {
			bad = 0
		}
		wantMended(t, mode, right.with(as).bytes(), want, bad)
		wantUnpacked(t, mode, right.with(as).bytes(), small, trio(), 2, bad)
		for _, row := range mendFaults() {
			for _, f := range row {
				if worksIn(mode, f.what) {
					wantRefused(t, mode+": "+f.what, right.with(as, f.do).bytes(), f.e)
				}
			}
		}
	}
}

// TestMendFirst: of two faults that of the row ahead is told.
func TestMendFirst(t *testing.T) {
	right := trioLaid(t)
	rows := mendFaults()
	for mode, as := range copyModes() {
		for i, row := range rows {
			for _, later := range rows[i+1:] {
				for _, f := range row {
					for _, g := range later {
						if !worksIn(mode, f.what) || !worksIn(mode, g.what) {
							continue
						}
						wantRefused(t, mode+": "+f.what+", "+g.what, right.with(as, g.do, f.do).bytes(), f.e)
					}
				}
			}
		}
	}
}

// TestMendHeadBytes: each byte of the head that may be, by the plain words, told by both copies or by one.
func TestMendHeadBytes(t *testing.T) {
	right := trioLaid(t)
	seen := map[api.Errno]int{}
	for at := 5; at < 17; at++ {
		for x := range 256 {
			for _, as := range copyModes() {
				put := func(of func(c []byte) []byte) func(c []byte) []byte {
					return func(c []byte) []byte {
						c[at] = byte(x)
						return made(of, summed(c[:17]))
					}
				}
				b := right.with(as, func(y *laid) { y.first, y.last = put(y.first), put(y.last) }).bytes()
				seen[checkBytes(t, b).mending]++
			}
		}
	}
	for _, e := range []api.Errno{api.OK, api.ErrShort, api.ErrForm, api.ErrOpts, api.ErrArg, api.ErrLimit, api.ErrDamage} {
		if seen[e] == 0 {
			t.Errorf("error %d isn't seen: %v", e, seen)
		}
	}
}

// TestMendOtherHead: the first copy that counts is the head, whatever the last one says, and that is damage.
func TestMendOtherHead(t *testing.T) {
	x := trioLaid(t)
	is := func(change func(h *told)) func(c []byte) []byte {
		h := x.head
		change(&h)
		return func([]byte) []byte { return h.bytes() }
	}
	for what, change := range map[string]func(h *told){
		"Block is 17":           func(h *told) { h.size = 17 },
		"Block is 0":            func(h *told) { h.size = 0 },
		"Plain is 1":            func(h *told) { h.plain = 1 },
		"Plain is 2":            func(h *told) { h.plain = 2 },
		"Chunk is 17":           func(h *told) { h.chunk = 17 },
		"a body of 2^32 - 1":    func(h *told) { h.long = 1<<32 - 1 },
		"a body of a byte less": func(h *told) { h.long-- },
		"a body of a byte more": func(h *told) { h.long++ },
	} {
		b := x.with(func(y *laid) { y.last = is(change) }).bytes()
		wantMended(t, "the last: "+what, b, x.bytes(), 1)
		wantUnpacked(t, "the last: "+what, b, small, trio(), 2, 1)
		checkBytes(t, b)
		b = x.with(func(y *laid) { y.mid = lost(1, 3, 8, 19)(y.mid) }, func(y *laid) { y.last = is(change) }).bytes()
		wantMended(t, "the last, and chunks: "+what, b, x.bytes(), 5)
		wantUnpacked(t, "the last, and chunks: "+what, b, small, trio(), 2, 5)
		first := x.with(func(y *laid) { y.first = is(change) }).bytes()
		if _, _, e := Mended(first); checkBytes(t, first).mending != e {
			t.Errorf("the first: %s: error %d", what, e)
		}
	}
	o := small
	o.Block, o.Plain = 17, true
	b := x.with(func(y *laid) { y.first = is(func(h *told) { h.size, h.plain = 17, 1 }) }).bytes()
	wantMended(t, "the first is another one", b, laidOf(t, o, mustMake(t, small, trio()...)).bytes(), 1)
	wantUnpacked(t, "the first is another one", b, o, trio(), 2, 1)
	wantRefused(t, "the first has no options that may be", x.with(func(y *laid) { y.first = is(func(h *told) { h.bucket = 0 }) }).bytes(), api.ErrOpts)
	wantRefused(t, "the first has no Plain that may be", x.with(func(y *laid) { y.first = is(func(h *told) { h.plain = 9 }) }).bytes(), api.ErrForm)
	wantRefused(t, "the first has too long a body", x.with(func(y *laid) { y.first = is(func(h *told) { h.long = 1 << 24 }) }).bytes(), api.ErrArg)
}

// TestMendAny: what is laid out needn't be a body to be mended.
func TestMendAny(t *testing.T) {
	r := chance(4)
	for _, n := range []int{0, 1, 2, 3, 4, 5, 31, 32, 33, 255, 256, 257, 65535, 65536, 65537} {
		inner := make([]byte, n)
		r.Read(inner)
		for _, o := range []api.Opts{small, {Block: 1024, Plain: true, Bucket: 16, Data: 4, Parity: 2, Chunk: 64}, {Block: 32768, Bucket: 64, Data: 1, Chunk: 4096}} {
			b := laidOf(t, o, inner).bytes()
			wantMended(t, fmt.Sprint(n, " bytes"), b, b, 0)
			if n == 0 && len(b) != 42 {
				t.Errorf("an archive of no body has %d bytes", len(b))
			}
			if e := checkBytes(t, b); e.mending != api.OK || e.opening == api.OK {
				t.Errorf("%d bytes: %+v", n, e)
			}
			if n > 0 && o.Parity > 0 {
				c := slices.Clone(b)
				spoilChunk(o, c, chunksOf(o, c)-1, n)
				spoilCopy(c[:21], n)
				wantMended(t, fmt.Sprint(n, " bytes, damaged"), c, b, 2)
			}
		}
	}
}

// TestMendMuch: as many bytes as may be laid out, and one more.
func TestMendMuch(t *testing.T) {
	inner := make([]byte, 1<<23)
	chance(5).Read(inner)
	for _, o := range []api.Opts{{Block: 1024, Bucket: 16, Data: 255, Chunk: 4096}, {Block: 1024, Bucket: 16, Data: 4, Parity: 2, Chunk: 64}, {Block: 16, Bucket: 1, Data: 1, Chunk: 4}} {
		x := laidOf(t, o, inner)
		b := x.bytes()
		wantMended(t, "2^23 bytes", b, b, 0)
		if o.Parity > 0 {
			c := slices.Clone(b)
			for k := 0; k < chunksOf(o, c); k += 6000 {
				spoilChunk(o, c, k, k/6000)
				spoilChunk(o, c, k+5, k/6000)
			}
			spoilCopy(c[len(c)-21:], 2)
			wantMended(t, "2^23 bytes, damaged", c, b, 2*((chunksOf(o, c)+5999)/6000)+1)
		}
		wantRefused(t, "2^23 bytes and one", x.with(func(x *laid) { x.head.long++ }).bytes(), api.ErrArg)
	}
	x := laidOf(t, small, inner[:5368704])
	wantMended(t, "just as many as may be", x.bytes(), x.bytes(), 0)
	wantRefused(t, "one more than may be", x.with(func(x *laid) { x.head.long++ }).bytes(), api.ErrLimit)
}

// TestMendPadding: bytes beyond those that the head says must be 0.
func TestMendPadding(t *testing.T) {
	right := trioLaid(t)
	inner := mustMake(t, small, trio()...)
	for long := 97; long <= 128; long++ {
		b := right.with(func(x *laid) { x.head.long = uint32(long) }).bytes()
		if long < len(inner) && slices.ContainsFunc(inner[long:], func(x byte) bool { return x != 0 }) {
			wantRefused(t, fmt.Sprint("a body of ", long), b, api.ErrForm)
			continue
		}
		wantMended(t, fmt.Sprint("a body of ", long), b, b, 0)
		checkBytes(t, b)
	}
}

// P24.4

// bodyFaults are of bodies of trio, for buckets of one term, that aren't opened.
func bodyFaults(t *testing.T) map[string][]byte {
	right := innardsOf(t, trio()...).with(func(x *innards) {
		x.counts, x.frames = []int{1, 2}, append(x.frames[:1], frameOf(t, plainRecords(trio()[1:]...)))
	})
	b := right.bytes()
	if !bytes.Equal(b, mustMake(t, small, trio()...)) {
		t.Fatalf("%q isn't the body", b)
	}
	of := func(change func(x *innards)) []byte { return right.with(change).bytes() }
	out := map[string][]byte{
		"no body": nil, "a byte": {0}, "three bytes": b[:3], "a body's first bytes": b[:len(b)/2],
		"a body without its last byte":       b[:len(b)-1],
		"a body without its first byte":      b[1:],
		"a byte behind the body":             append(slices.Clone(b), 0),
		"a byte ahead of the body":           append([]byte{0}, b...),
		"a head ahead of the body":           append(toldOf(small, len(b)).bytes(), b...),
		"how long the directory is":          turned(b, -4),
		"the directory's sum":                turned(b, -5),
		"the directory's last byte":          turned(b, -9),
		"a byte behind the directory":        of(func(x *innards) { x.more = "\x00" }),
		"a block without records":            of(func(x *innards) { x.counts[0], x.counts[1] = 0, 3 }),
		"no columns":                         of(func(x *innards) { x.columns = nil }),
		"a byte behind the columns":          of(func(x *innards) { x.columns = append(slices.Clone(x.columns), 0) }),
		"a time of no form":                  of(func(x *innards) { x.columns = []byte("\x12\x83\x00\x02" + "\x01\x02\x03\x01") }),
		"too many levels":                    of(func(x *innards) { x.columns = []byte("\x12\x03\x02" + "\x01\x04") }),
		"the columns' first byte":            turned(b, bytes.Index(b, right.columns)),
		"no index":                           of(func(x *innards) { x.index = nil }),
		"a byte behind the index":            of(func(x *innards) { x.index = append(slices.Clone(x.index), 0) }),
		"a record that isn't there":          of(func(x *innards) { x.index = append(slices.Clone(x.index[:len(x.index)-1]), 0xa0) }),
		"2^20 terms and one":                 of(func(x *innards) { x.index = []byte("\x81\x80\x40") }),
		"the index of more records":          of(func(x *innards) { x.index = indexOf(t, append(make([]api.Record, 1000), trio()...)...) }),
		"the index's first byte":             turned(b, bytes.Index(b, right.index)),
		"20001 records, it says":             of(func(x *innards) { x.counts[1] = 20000 }),
		"no bytes but those of an empty one": []byte(emptyBody()[1:]),
	}
	return out
}

func TestOpenFaults(t *testing.T) {
	seen := map[api.Errno]int{}
	for what, inner := range bodyFaults(t) {
		_, want := body.Open(small, inner)
		if want == api.OK {
			t.Fatalf("%s: is a body", what)
		}
		seen[want]++
		x := laidOf(t, small, inner)
		for mode, as := range copyModes() {
			b := x.with(as).bytes()
			notOpened(t, what+", "+mode, b, want)
			if e := checkBytes(t, b); e.mending != api.OK || e.opening != want {
				t.Errorf("%s, %s: %+v, not %d", what, mode, e, want)
			}
			if len(inner) > 0 {
				notOpened(t, what+", damaged", x.with(as, func(x *laid) { x.mid = lost(2, 1)(x.mid) }).bytes(), want)
			}
		}
	}
	for _, e := range []api.Errno{api.ErrShort, api.ErrForm, api.ErrSum, api.ErrLimit, api.ErrRange} {
		if seen[e] == 0 {
			t.Errorf("error %d isn't seen: %v", e, seen)
		}
	}
}

// TestOpenFirst: an error of mending is told ahead of one of opening.
func TestOpenFirst(t *testing.T) {
	tried := 0
	for what, inner := range bodyFaults(t) {
		if len(inner) < 97 || len(inner) > 128 { // as many stripes as trio's
			continue
		}
		tried++
		x := laidOf(t, small, inner)
		for _, row := range mendFaults() {
			for _, f := range row {
				wantRefused(t, what+", "+f.what, x.with(f.do).bytes(), f.e)
			}
		}
	}
	if tried < 10 {
		t.Errorf("just %d bodies are tried", tried)
	}
}

// TestOpenBucket: the index is read for buckets of the size that the head says.
func TestOpenBucket(t *testing.T) {
	l := []api.Record{{Text: "a b c d e f g"}}
	for _, is := range []int{1, 2, 3, 6, 7, 8, 64} {
		for says := 1; says <= 64; says++ {
			o := small
			o.Bucket = is
			x := laidOf(t, o, mustMake(t, o, l...))
			e := checkBytes(t, x.with(func(x *laid) { x.head.bucket = byte(says) }).bytes())
			if one := is == says || is >= 7 && says >= 7; e.mending != api.OK || (e.opening == api.OK) != one || e.opening != e.unpacking {
				t.Errorf("buckets of %d, it says %d: %+v", is, says, e)
			}
		}
	}
}

// TestOpenBody: the body is told as it was opened: no block of it is, and each call's is another one.
func TestOpenBody(t *testing.T) {
	r := chance(6)
	for range 200 {
		o, l := someOpts(r), someLog(r, 20, 60)
		b := mustPack(t, o, l...)
		if e := checkBytes(t, b); e != (errors{}) {
			t.Fatalf("%+v, %v: %+v", o, l, e)
		}
		_, x, _, _ := Open(b)
		_, y, _, _ := Open(b)
		for k := range x.Blocks() {
			x.Fetch(k)
		}
		Unpack(b)
		Mended(b)
		if len(x.Opened()) != len(x.Blocks()) || len(y.Opened()) != 0 {
			t.Fatalf("opened are %v and %v", x.Opened(), y.Opened())
		}
		want, e := body.Open(o, mustMake(t, o, l...))
		if e != api.OK {
			t.Fatal(e)
		}
		wantBody(t, y, want)
	}
}

// P24.5

// bitsOf tells the bits of tokens.
func bitsOf(t testing.TB, l []api.Token) string {
	t.Helper()
	b, e := toks.Write(l)
	if e != api.OK {
		t.Fatalf("%d tokens: error %d", len(l), e)
	}
	return string(b)
}

// badFrame is a frame that isn't a record's, and the error.
type badFrame struct {
	what  string
	frame []byte
	e     api.Errno
}

// badFrames are refused as blocks of a record.
func badFrames(t *testing.T) []badFrame {
	of := func(b string) []byte { return frameOf(t, []byte(b)) }
	right := of("\x00\x02ok")
	return []badFrame{
		{"no bytes", nil, api.ErrShort},
		{"a byte less", right[:len(right)-1], api.ErrShort},
		{"a way 2", rawFrame(2, 4, "\x00\x02ok"), api.ErrForm},
		{"a byte behind it", append(of("\x00\x02ok"), 0), api.ErrForm},
		{"a sum that isn't right", turned(right, -1), api.ErrSum},
		{"32769 bytes", rawFrame(0, 32769, "\x00\x02ok"), api.ErrLimit},
		{"no code", rawFrame(1, 4, strings.Repeat("\x11", 200)), api.ErrCode},
		{"a match ahead of all bytes", rawFrame(1, 40, bitsOf(t, []api.Token{{Len: 3, Dist: 1}})), api.ErrRange},
		{"a text of 4001 bytes", of("\x00\xa1\x1f" + xs(4001)), api.ErrLimit},
		{"a text that isn't there whole", of("\x00\x02o"), api.ErrShort},
		{"no records", of(""), api.ErrForm},
		{"two records", of("\x00\x02ok\x00\x00"), api.ErrForm},
	}
}

// notALog sees that bytes are mended and opened, but unpacked to this error and nothing else, damaged or not.
func notALog(t *testing.T, what string, inner []byte, want api.Errno) {
	t.Helper()
	x := laidOf(t, small, inner)
	for mode, as := range copyModes() {
		for _, b := range [][]byte{x.with(as).bytes(), x.with(as, func(x *laid) { x.mid = lost(0, 4)(x.mid) }).bytes()} {
			notUnpacked(t, what+", "+mode, b, want)
			if e := checkBytes(t, b); e != (errors{unpacking: want}) {
				t.Errorf("%s, %s: %+v, not %d", what, mode, e, want)
			}
		}
	}
}

func TestUnpackFaults(t *testing.T) {
	right := innardsOf(t, trio()...)
	for k := range 3 {
		for _, x := range badFrames(t) {
			notALog(t, fmt.Sprintf("block %d: %s", k, x.what), right.with(func(y *innards) { y.frames[k] = x.frame }).bytes(), x.e)
		}
	}
	l := trio()
	for what, index := range map[string][]byte{
		"no terms":      indexOf(t, api.Record{}, api.Record{}, api.Record{}),
		"a term less":   indexOf(t, l[0], l[1], api.Record{}),
		"another term":  indexOf(t, l[0], l[1], api.Record{Text: "no"}),
		"other records": indexOf(t, l[0], l[2], l[1]),
	} {
		notALog(t, "an index of "+what, right.with(func(x *innards) { x.index = index }).bytes(), api.ErrIndex)
		for _, x := range badFrames(t) {
			notALog(t, "an index of "+what+", a block: "+x.what, right.with(func(y *innards) { y.index, y.frames[2] = index, x.frame }).bytes(), x.e)
		}
	}
	for _, x := range badFrames(t) {
		for _, y := range badFrames(t) {
			notALog(t, "two blocks: "+x.what+", "+y.what, right.with(func(z *innards) { z.frames[0], z.frames[2] = x.frame, y.frame }).bytes(), x.e)
		}
	}
}

// TestUnpackLimit: a weight of 2^20, and more.
func TestUnpackLimit(t *testing.T) {
	for more := -1; more < 2; more++ {
		l := append(same(130, api.Record{Source: xs(4000), Text: xs(4000)}), api.Record{Time: 3, Source: xs(3000)}, api.Record{Time: 5, Level: 1, Text: xs(3464 + more)})
		inner := innardsOf(t, l...).bytes()
		if more > 0 {
			notALog(t, "a weight of 2^20 and 1", inner, api.ErrLimit)
			continue
		}
		wantUnpacked(t, "much", laidOf(t, small, inner).bytes(), small, l, len(l), 0)
	}
}

// TestUnpackBlocks: blocks are read as they stand there, in groups of any size, squeezed or not, and are counted.
func TestUnpackBlocks(t *testing.T) {
	long := append(trio(), api.Record{Text: strings.Repeat("disk ", 50)})
	for _, c := range [][]int{{4}, {1, 3}, {2, 2}, {3, 1}, {1, 1, 2}, {1, 2, 1}, {2, 1, 1}, {1, 1, 1, 1}} {
		for _, squeezed := range []bool{false, true} {
			inner := innardsOf(t, long...).with(func(x *innards) {
				x.counts, x.frames = c, nil
				left := long
				for _, n := range c {
					raw := plainRecords(left[:n]...)
					frame := frameOf(t, raw)
					if squeezed {
						frame = rawFrame(1, len(raw), bitsOf(t, lz.Find(raw)))
					}
					x.frames = append(x.frames, frame)
					left = left[n:]
				}
			}).bytes()
			wantUnpacked(t, fmt.Sprint("blocks of ", c), laidOf(t, small, inner).bytes(), small, long, len(c), 0)
		}
	}
}

// TestUnpackPlain: blocks are squeezed where that is shorter, but not if Plain says so.
func TestUnpackPlain(t *testing.T) {
	l := same(20, api.Record{Source: "db", Text: "disk full, disk full"})
	o := api.Opts{Block: 32768, Bucket: 16, Data: 1, Chunk: 4096}
	squeezed := mustPack(t, o, l...)
	o.Plain = true
	plain := mustPack(t, o, l...)
	if way, e := block.Way(squeezed[21:]); way != 1 || e != api.OK || squeezed[5] != 0 {
		t.Errorf("the block isn't squeezed: way %d, error %d", way, e)
	}
	if way, e := block.Way(plain[21:]); way != 0 || e != api.OK || plain[5] != 1 {
		t.Errorf("the block is squeezed: way %d, error %d", way, e)
	}
	if !bytes.Contains(plain, plainRecords(l...)) || bytes.Contains(squeezed, plainRecords(l...)) {
		t.Error("the records stand in what is squeezed, or not in what is plain")
	}
}

// P24.6

// wantAll sees that damaged bytes are mended, opened and unpacked as if they weren't damaged.
func wantAll(t *testing.T, what string, b, right []byte, o api.Opts, l []api.Record, blocks, bad int) {
	t.Helper()
	wantMended(t, what, b, right, bad)
	wantUnpacked(t, what, b, o, l, blocks, bad)
}

// damaged spoils chunks of a stripe by a mask, and a copy of the head, or none (0); it tells how much that is.
func damaged(o api.Opts, b []byte, at int, mask uint, spoil, kind int) int {
	n := 0
	for i := range o.Data + o.Parity {
		if mask>>i&1 == 1 {
			spoilChunk(o, b, at*(o.Data+o.Parity)+i, kind+i)
			n++
		}
	}
	switch spoil {
	case 1:
		spoilCopy(b[:21], kind)
		n++
	case 2:
		spoilCopy(b[len(b)-21:], kind)
		n++
	}
	return n
}

// TestEachLoss: each choice of chunks of a stripe, and of a copy of the head, in all small shapes.
func TestEachLoss(t *testing.T) {
	for data := 1; data <= 3; data++ {
		for parity := range 4 {
			o := api.Opts{Block: 16, Bucket: 1, Data: data, Parity: parity, Chunk: 60}
			right := mustPack(t, o, trio()...)
			count := chunksOf(o, right) / (data + parity)
			for at := range count {
				for mask := range uint(1) << (data + parity) {
					for spoil := range 3 {
						b := slices.Clone(right)
						n := damaged(o, b, at, mask, spoil, int(mask))
						what := fmt.Sprintf("%+v, stripe %d, chunks %b, copy %d", o, at, mask, spoil)
						if bits.OnesCount(mask) > parity {
							wantRefused(t, what, b, api.ErrDamage)
						} else {
							wantAll(t, what, b, right, o, trio(), 2, n)
						}
					}
				}
			}
		}
	}
}

// someDamage spoils at most m chunks of each stripe, and one copy of the head or none; it tells how much that is.
func someDamage(r *rand.Rand, o api.Opts, b []byte) int {
	parts, n := o.Data+o.Parity, 0
	for at := range chunksOf(o, b) / parts {
		for _, i := range r.Perm(parts)[:r.Intn(o.Parity+1)] {
			spoilChunk(o, b, at*parts+i, r.Intn(5))
			n++
		}
	}
	return n + damaged(o, b, 0, 0, r.Intn(3), r.Intn(5))
}

// TestSomeLoss: archives of chance, with chance damage in each stripe.
func TestSomeLoss(t *testing.T) {
	r := chance(7)
	for range 500 {
		o, l := someOpts(r), someLog(r, 12, 30)
		right := mustPack(t, o, l...)
		blocks := len(mustBlocks(t, right))
		b := slices.Clone(right)
		n := someDamage(r, o, b)
		wantAll(t, fmt.Sprintf("%+v", o), b, right, o, l, blocks, n)
		again, n, e := Mended(mustMend(t, b))
		if !bytes.Equal(again, right) || n != 0 || e != api.OK {
			t.Fatalf("%+v: mended again: number %d, error %d", o, n, e)
		}
		checkBytes(t, b)
	}
}

// mustBlocks tells how many records each block of an archive has.
func mustBlocks(t *testing.T, b []byte) []int {
	t.Helper()
	_, x, _, e := Open(b)
	if e != api.OK {
		t.Fatalf("not opened: error %d", e)
	}
	return x.Blocks()
}

// mustMend tells bytes mended.
func mustMend(t *testing.T, b []byte) []byte {
	t.Helper()
	x, _, e := Mended(b)
	if e != api.OK {
		t.Fatalf("not mended: error %d", e)
	}
	return x
}

// TestEachByte: each byte changed to some others: the archive is what it was, and one is counted.
func TestEachByte(t *testing.T) {
	right := mustPack(t, small, trio()...)
	for at := range right {
		for _, by := range []byte{1, 2, 4, 8, 16, 32, 64, 128, 255} {
			b := slices.Clone(right)
			b[at] ^= by
			wantMended(t, fmt.Sprintf("the byte %d", at), b, right, 1)
			if by == 255 {
				wantUnpacked(t, fmt.Sprintf("the byte %d", at), b, small, trio(), 2, 1)
			}
		}
	}
}

// TestManyLost: the most damage that can be mended, in wide shapes; one more chunk of a stripe can't.
func TestManyLost(t *testing.T) {
	l := trio()
	for _, o := range shapes() {
		o.Block, o.Bucket = 16, 1
		right := mustPack(t, o, l...)
		parts := o.Data + o.Parity
		count := chunksOf(o, right) / parts
		for from := range min(parts, 3) {
			b := slices.Clone(right)
			for at := range count {
				for i := range o.Parity {
					spoilChunk(o, b, at*parts+(from+at+i)%parts, i)
				}
			}
			spoilCopy(b[:21], from)
			wantAll(t, fmt.Sprintf("%+v", o), b, right, o, l, 2, count*o.Parity+1)
			one := count - 1
			spoilChunk(o, b, one*parts+(from+one+o.Parity)%parts, 0)
			wantRefused(t, fmt.Sprintf("%+v, one more", o), b, api.ErrDamage)
		}
	}
}

// What holds everywhere

// changed tells bytes with one taken out, put in, or made another one.
func changed(b []byte, how, at int, to byte) []byte {
	b = slices.Clone(b)
	switch how {
	case 0:
		return slices.Delete(b, at, at+1)
	case 1:
		return slices.Insert(b, at, to%4)
	case 2:
		b[at] ^= 1 << (to % 8)
	case 3:
		b[at]++
	case 4:
		b[at]--
	}
	return b
}

// TestChance: what archives are laid of is changed in places, with sums that are right, or not.
func TestChance(t *testing.T) {
	r := chance(8)
	seen := map[errors]int{}
	some := func(b []byte) []byte {
		if len(b) == 0 {
			return []byte{byte(r.Intn(3))}
		}
		return changed(b, r.Intn(5), r.Intn(len(b)), byte(r.Intn(256)))
	}
	someSummed := func(b []byte) []byte { return summed(some(b[:len(b)-4])) }
	for range 20000 {
		o := someOpts(r)
		o.Chunk = 1 + r.Intn(40)
		inner := mustMake(t, o, someLog(r, 5, 12)...)
		if r.Intn(4) == 0 {
			inner = some(inner)
		}
		b := laidOf(t, o, inner).with(func(x *laid) {
			for range r.Intn(4) {
				switch r.Intn(9) {
				case 0:
					x.first = some
				case 1:
					x.last = some
				case 2:
					x.first = someSummed
				case 3:
					x.last = someSummed
				case 4:
					x.head.long += uint32(r.Intn(3) - 1)
				case 5:
					x.head.parity ^= byte(r.Intn(3))
				case 6:
					x.end = some
				default:
					for range r.Intn(4) {
						x.mid = changed(append(x.mid, 0)[:max(1, len(x.mid))], 2+r.Intn(3), r.Intn(max(1, len(x.mid))), byte(r.Intn(8)))
					}
				}
			}
		}).bytes()
		seen[checkBytes(t, b)]++
	}
	mending, opening := map[api.Errno]int{}, map[api.Errno]int{}
	for e, n := range seen {
		mending[e.mending] += n
		if e.mending == api.OK {
			opening[e.opening] += n
		}
	}
	for _, e := range []api.Errno{api.OK, api.ErrShort, api.ErrForm, api.ErrSum, api.ErrOpts, api.ErrDamage} {
		if mending[e] < 50 {
			t.Errorf("error %d of mending is seldom seen: %v", e, mending)
		}
	}
	for _, e := range []api.Errno{api.OK, api.ErrShort, api.ErrForm, api.ErrSum} {
		if opening[e] < 20 {
			t.Errorf("error %d of opening is seldom seen: %v", e, opening)
		}
	}
}

// TestAny: any bytes, most with a head whose sum is right, and that says little.
func TestAny(t *testing.T) {
	r := chance(9)
	for range 60000 {
		b := make([]byte, r.Intn(70))
		for i := range b {
			b[i] = byte(r.Intn(256) >> r.Intn(8))
		}
		h := told{mark: "FIRK\x03", plain: byte(r.Intn(20) / 19), bucket: byte(r.Intn(66)), data: byte(r.Intn(4)), parity: byte(r.Intn(3)), chunk: uint16(r.Intn(5)), size: uint16(14 + r.Intn(50)), long: uint32(r.Intn(8))}
		switch r.Intn(8) {
		case 0:
		case 1:
			b = append(b, h.bytes()...)
		case 2:
			b = append(h.bytes(), b...)
		default:
			b = slices.Concat(h.bytes(), b, h.bytes())
		}
		checkBytes(t, b)
	}
	for _, b := range [][]byte{nil, {}, make([]byte, 41), make([]byte, 42), make([]byte, 1<<20), []byte(strings.Repeat("FIRK\x03", 100))} {
		checkBytes(t, b)
	}
}

// TestLogsStay: logs that are handed in stay, their spare room, too; what is packed is apart from what else is packed.
func TestLogsStay(t *testing.T) {
	r := chance(10)
	for range 200 {
		o, l := someOpts(r), someLog(r, 8, 20)
		whole := append(slices.Clone(l), api.Record{Text: "spare"}, api.Record{Text: "room"})
		before := slices.Clone(whole)
		b := mustPack(t, o, whole[:len(l)]...)
		other := mustPack(t, o, whole[:len(l)]...)
		clear(other[:cap(other)])
		if !slices.Equal(whole, before) {
			t.Fatal("a log is changed")
		}
		clear(whole)
		if !bytes.Equal(b, laidOf(t, o, mustMake(t, o, l...)).bytes()) {
			t.Fatal("an archive hangs together with a log, or with others")
		}
	}
}

// TestBytesStay: bytes that are handed in stay, their spare room, too, and what is made of them is apart from them, and from what else is.
func TestBytesStay(t *testing.T) {
	r := chance(11)
	for range 200 {
		o, l := someOpts(r), someLog(r, 8, 20)
		right := mustPack(t, o, l...)
		b := slices.Clone(right)
		if r.Intn(2) == 0 {
			someDamage(r, o, b)
		}
		whole := append(slices.Clone(b), "spare room"...)
		before := slices.Clone(whole)
		arg := whole[:len(b)]
		Has(arg)
		_, got, _, _, _ := Unpack(arg)
		_, other, _, _, _ := Unpack(arg)
		mended, _, _ := Mended(arg)
		again, _, _ := Mended(arg)
		_, x, _, _ := Open(arg)
		_, want, _, _ := plainOpen(b)
		if !bytes.Equal(whole, before) {
			t.Fatal("bytes are changed")
		}
		clear(other[:cap(other)])
		clear(again[:cap(again)])
		clear(whole)
		if !slices.Equal(got, l) || !bytes.Equal(mended, right) {
			t.Fatal("a log, or what is mended, hangs together with bytes, or with another one")
		}
		wantBody(t, x, want)
	}
}
