package one

import (
	"bytes"
	"encoding/binary"
	"hash/crc32"
	"math/rand"
	"slices"
	"strings"
	"testing"

	"firkin/api"
	"firkin/block"
	"firkin/lz"
	"firkin/recs"
	"firkin/toks"
)

// chance tells numbers that look like chance, the same in each run.
func chance(seed int64) *rand.Rand { return rand.New(rand.NewSource(seed)) }

// few tells the first ones of a list, for messages.
func few[T any](l []T) []T { return l[:min(len(l), 60)] }

// plainNum tells a number's bytes, as chapter 3 tells them.
func plainNum(x uint64) []byte {
	var b []byte
	for x > 127 {
		b = append(b, byte(x%128)+128)
		x /= 128
	}
	return append(b, byte(x))
}

// plainText tells a text's bytes, as chapter 3 tells them.
func plainText(s string) []byte { return append(plainNum(uint64(len(s))), s...) }

// summed tells bytes with their sum behind them, as chapter 1 tells it.
func summed(b []byte) []byte {
	return binary.LittleEndian.AppendUint32(slices.Clone(b), crc32.ChecksumIEEE(b))
}

// plainBytes tells records as bytes, whole, as chapter 17 tells them.
func plainBytes(l ...api.Record) []byte {
	var b []byte
	for _, r := range l {
		b = slices.Concat(b, plainNum(r.Time), []byte{r.Level}, plainText(r.Source), plainText(r.Text))
	}
	return b
}

// plainGroups tells the groups of a log, as chapter 17 tells them.
func plainGroups(size int, l []api.Record) [][]api.Record {
	var groups [][]api.Record
	long := 0
	for _, r := range l {
		n := len(plainBytes(r))
		if len(groups) > 0 && long+n <= size {
			long += n
			groups[len(groups)-1] = append(groups[len(groups)-1], r)
			continue
		}
		long = n
		groups = append(groups, []api.Record{r})
	}
	return groups
}

// frameOf tells the frame of bytes.
func frameOf(t testing.TB, plain bool, b []byte) []byte {
	t.Helper()
	frame, e := block.Write(b, plain)
	if e != api.OK {
		t.Fatalf("a frame of %d bytes: error %d", len(b), e)
	}
	return frame
}

// rawFrame tells a frame of these parts, whether they fit each other or not, as chapter 12 tells it.
func rawFrame(way byte, many int, follows string) []byte {
	return summed(slices.Concat([]byte{way}, plainNum(uint64(many)), plainText(follows)))
}

// bitsOf tells the bits of tokens.
func bitsOf(t testing.TB, l []api.Token) string {
	t.Helper()
	b, e := toks.Write(l)
	if e != api.OK {
		t.Fatalf("%d tokens: error %d", len(l), e)
	}
	return string(b)
}

// squeezedFrame tells the frame of bytes of the way 1, whether that is shorter or not.
func squeezedFrame(t testing.TB, b []byte) []byte {
	t.Helper()
	return rawFrame(1, len(b), bitsOf(t, lz.Find(b)))
}

// laid is what an archive is laid of. What isn't nil or 0 at its end stands there instead of what fits the rest.
type laid struct {
	mark   string
	size   uint64
	plain  byte
	many   uint64 // how many records
	frames [][]byte

	sizeBytes   []byte
	manyBytes   []byte
	blocksBytes []byte
	behind      []byte                // behind the blocks
	parts       int                   // of mark, Block, Plain, how many records, how many blocks so many are there, and no block
	last        func(b []byte) []byte // what is made of all of it
}

// laidOf tells what the archive of a log is laid of, as the chapter's words tell it.
func laidOf(t testing.TB, o api.Opts, l []api.Record) laid {
	t.Helper()
	x := laid{mark: "FIRK\x01", size: uint64(o.Block), many: uint64(len(l))}
	if o.Plain {
		x.plain = 1
	}
	for _, group := range plainGroups(o.Block, l) {
		x.frames = append(x.frames, frameOf(t, o.Plain, plainBytes(group...)))
	}
	return x
}

// or tells b, or what stands instead of it.
func or(instead, b []byte) []byte {
	if instead != nil {
		return instead
	}
	return b
}

// ahead tells what stands ahead of the sum.
func (x laid) ahead() []byte {
	size, many, blocks := plainNum(x.size), plainNum(x.many), plainNum(uint64(len(x.frames)))
	parts := [][]byte{[]byte(x.mark), or(x.sizeBytes, size), {x.plain}, or(x.manyBytes, many), or(x.blocksBytes, blocks)}
	if x.parts > 0 {
		return slices.Concat(parts[:x.parts]...)
	}
	return slices.Concat(slices.Concat(parts...), slices.Concat(x.frames...), x.behind)
}

// bytes tells all of it.
func (x laid) bytes() []byte {
	b := summed(x.ahead())
	if x.last != nil {
		return x.last(b)
	}
	return b
}

// with tells what is laid, but for a change.
func (x laid) with(change func(x *laid)) laid {
	x.frames = slices.Clone(x.frames)
	change(&x)
	return x
}

// plain takes numbers and bytes, as chapter 3 tells it; an error stays.
type plain struct {
	b []byte
	e api.Errno
}

// wrong gives an error, if there is none so far.
func (p *plain) wrong(is bool, e api.Errno) {
	if is && p.e == api.OK {
		p.e = e
	}
}

// number takes a number of at most so much.
func (p *plain) number(most int) int {
	for i := 0; i < len(p.b) && p.e == api.OK; i++ {
		p.wrong(i == 9 && p.b[i] != 1 || i > 0 && p.b[i] == 0, api.ErrForm)
		if p.b[i] >= 128 {
			continue
		}
		x := 0.0 // far above each most, a float is as good as a number
		for k := i; k >= 0; k-- {
			x = 128*x + float64(p.b[k]%128)
		}
		p.wrong(x > float64(most), api.ErrLimit)
		if p.e == api.OK {
			p.b = p.b[i+1:]
			return int(x)
		}
	}
	p.wrong(true, api.ErrShort)
	return 0
}

// unpacked is what Unpack tells.
type unpacked struct {
	o      api.Opts
	l      []api.Record
	blocks int
	e      api.Errno
}

// plainUnpack unpacks bytes, as the chapter's words tell it.
func plainUnpack(b []byte) unpacked {
	p := &plain{}
	p.wrong(len(b) < 5, api.ErrShort)
	p.wrong(!strings.HasPrefix(string(b), "FIRK"), api.ErrMagic)
	p.wrong(!strings.HasPrefix(string(b), "FIRK\x01"), api.ErrVersion)
	if p.e != api.OK {
		return unpacked{e: p.e}
	}
	n := len(b) - 4
	p.wrong(!bytes.Equal(summed(b[:n]), b), api.ErrSum)
	p.wrong(n < 5, api.ErrShort)
	if p.e != api.OK {
		return unpacked{e: p.e}
	}
	p.b = b[5:n]
	size := p.number(32768)
	p.wrong(len(p.b) < 1, api.ErrShort)
	if p.e != api.OK {
		return unpacked{e: p.e}
	}
	flag := p.b[0]
	p.b = p.b[1:]
	p.wrong(flag > 1, api.ErrForm)
	many := p.number(20000)
	blocks := p.number(many)
	p.wrong(size < 16, api.ErrOpts)
	l := p.log(many, blocks)
	if p.e != api.OK {
		return unpacked{e: p.e}
	}
	return unpacked{o: api.Opts{Block: size, Plain: flag == 1}, l: l, blocks: blocks}
}

// log takes the log, of so many records and blocks, which must be all that is left.
func (p *plain) log(many, blocks int) []api.Record {
	var all []api.Record
	for k := 0; k < blocks && p.e == api.OK; k++ {
		raw, long, e := block.Read(p.b)
		p.wrong(e != api.OK, e)
		l, e := recs.Read(true, raw)
		p.wrong(e != api.OK, e)
		p.wrong(len(l) == 0, api.ErrForm)
		p.b = p.b[long:]
		all = append(all, l...)
	}
	p.wrong(len(p.b) > 0, api.ErrForm)
	p.wrong(len(all) != many, api.ErrForm)
	weight := 0
	for _, r := range all {
		weight += 16 + len(r.Source+r.Text)
	}
	p.wrong(weight > 1<<20, api.ErrLimit)
	return all
}

// checkUnpack holds what is unpacked of bytes against the plain words; it tells the error.
func checkUnpack(t testing.TB, b []byte) api.Errno {
	t.Helper()
	want := plainUnpack(b)
	o, l, blocks, e := Unpack(b)
	if o != want.o || !slices.Equal(l, want.l) || blocks != want.blocks || e != want.e {
		t.Fatalf("%d bytes %q: %+v, %v, %d blocks, error %d, not %+v, %v, %d, error %d", len(b), few(b), o, few(l), blocks, e, want.o, few(want.l), want.blocks, want.e)
	}
	return e
}

// wantRefused sees that unpacking bytes tells this error and nothing else, and that the plain words tell it, too.
func wantRefused(t testing.TB, what string, b []byte, want api.Errno) {
	t.Helper()
	o, l, blocks, e := Unpack(b)
	if o != (api.Opts{}) || len(l) != 0 || blocks != 0 || e != want {
		t.Errorf("%s: %+v, %v, %d blocks, error %d, not %d", what, o, few(l), blocks, e, want)
	}
	if x := plainUnpack(b); x.e != want {
		t.Errorf("%s: as the words tell it, error %d, not %d", what, x.e, want)
	}
}

// wantUnpacked sees that bytes are unpacked to these.
func wantUnpacked(t testing.TB, b []byte, o api.Opts, l []api.Record, blocks int) {
	t.Helper()
	got, log, n, e := Unpack(b)
	if got != o || !slices.Equal(log, l) || n != blocks || e != api.OK {
		t.Fatalf("%d bytes %q: %+v, %v, %d blocks, error %d, not %+v, %v, %d", len(b), few(b), got, few(log), n, e, o, few(l), blocks)
	}
}

// mustPack packs a log that may be.
func mustPack(t testing.TB, o api.Opts, l ...api.Record) []byte {
	t.Helper()
	b, e := Pack(o, l...)
	if e != api.OK {
		t.Fatalf("%+v, %d records: error %d", o, len(l), e)
	}
	return b
}

// wantPack sees that the archive of a log is what the chapter's words tell, and that it is unpacked to these.
func wantPack(t testing.TB, o api.Opts, l ...api.Record) {
	t.Helper()
	b := mustPack(t, o, l...)
	x := laidOf(t, o, l)
	if want := x.bytes(); !bytes.Equal(b, want) {
		t.Fatalf("%+v, %d records %v: %q, not %q", o, len(l), few(l), few(b), few(want))
	}
	wantUnpacked(t, b, o, l, len(x.frames))
	wantUnpacked(t, append(b, "spare room"...)[:len(b)], o, l, len(x.frames))
}

// someText tells a text of chance: words that often come again, or any bytes.
func someText(r *rand.Rand, long int) string {
	n := r.Intn(long + 1)
	if r.Intn(4) == 0 {
		b := make([]byte, n)
		r.Read(b)
		return string(b)
	}
	var s strings.Builder
	for s.Len() < n {
		s.WriteString([]string{"disk ", "full ", "GET /a", "ok", " ", "x1, ", "Ä"}[r.Intn(7)])
	}
	return s.String()[:n]
}

// someLog tells a log of chance, of at most n records.
func someLog(r *rand.Rand, n, long int) []api.Record {
	var l []api.Record
	for range r.Intn(n + 1) {
		l = append(l, api.Record{Time: r.Uint64() >> r.Intn(64), Level: uint8(r.Intn(256)), Source: someText(r, 6), Text: someText(r, long)})
	}
	return l
}

// someOpts tells options of chance that may be.
func someOpts(r *rand.Rand) api.Opts {
	return api.Opts{Block: []int{16, 17, 32, 100, 1024, 32768}[r.Intn(6)], Plain: r.Intn(2) == 0}
}

// same tells n records that are alike.
func same(n int, r api.Record) []api.Record { return slices.Repeat([]api.Record{r}, n) }

// xs tells a text of n bytes.
func xs(n int) string { return strings.Repeat("x", n) }

// turned tells bytes with a bit turned in one, that is counted from the last one on if it is below 0.
func turned(b []byte, at int) []byte {
	b = slices.Clone(b)
	b[(at+len(b))%len(b)] ^= 4
	return b
}
