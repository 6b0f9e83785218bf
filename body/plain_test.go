package body

import (
	"bytes"
	"encoding/binary"
	"hash/crc32"
	"math/rand"
	"slices"
	"strings"
	"testing"

	"firkin/api"
	"firkin/block"
	"firkin/post"
	"firkin/recs"
)

// chance tells numbers that look like chance, the same in each run.
func chance(seed int64) *rand.Rand { return rand.New(rand.NewSource(seed)) }

// few tells the first ones of a list, for messages.
func few[T any](l []T) []T { return l[:min(len(l), 60)] }

// plainNum tells a number's bytes, as chapter 3 tells them.
func plainNum(x uint64) []byte {
	var b []byte
	for x > 127 {
		b = append(b, byte(x%128)+128)
		x /= 128
	}
	return append(b, byte(x))
}

// plainText tells a text's bytes, as chapter 3 tells them.
func plainText(s string) []byte { return append(plainNum(uint64(len(s))), s...) }

// plainChunk tells a chunk of bytes: these, and their sum.
func plainChunk(b []byte) []byte {
	return binary.LittleEndian.AppendUint32(slices.Clone(b), crc32.ChecksumIEEE(b))
}

// plainBytes tells records as bytes, not whole, as chapter 17 tells them.
func plainBytes(l []api.Record) []byte {
	var b []byte
	for _, r := range l {
		b = append(append(b, plainText(r.Source)...), plainText(r.Text)...)
	}
	return b
}

// plainGroups tells the groups of a log, as chapter 17 tells them.
func plainGroups(size int, l []api.Record) [][]api.Record {
	var groups [][]api.Record
	long := 0
	for _, r := range l {
		n := len(plainBytes([]api.Record{r}))
		if len(groups) > 0 && long+n <= size {
			long += n
			groups[len(groups)-1] = append(groups[len(groups)-1], r)
			continue
		}
		long = n
		groups = append(groups, []api.Record{r})
	}
	return groups
}

// frameOf tells the frame of bytes.
func frameOf(t testing.TB, plain bool, b []byte) []byte {
	t.Helper()
	frame, e := block.Write(b, plain)
	if e != api.OK {
		t.Fatalf("a frame of %d bytes: error %d", len(b), e)
	}
	return frame
}

// rawFrame tells a frame of these parts, whether they fit each other or not, as chapter 12 tells it.
func rawFrame(way byte, many int, follows string) []byte {
	return plainChunk(slices.Concat([]byte{way}, plainNum(uint64(many)), plainText(follows)))
}

// indexOf tells the index of a log as bytes.
func indexOf(t testing.TB, bucket, records int, l ...api.Record) []byte {
	t.Helper()
	b, e := post.Bytes(bucket, records, post.Build(l...))
	if e != api.OK {
		t.Fatalf("the index of %d records: error %d", len(l), e)
	}
	return b
}

// laid is what a body is laid of. What isn't nil at its end stands there instead of what fits the rest.
type laid struct {
	counts  []uint64 // of each block, how many records it has
	frames  [][]byte // of each block
	columns []byte
	index   []byte

	columnsChunk   []byte
	indexChunk     []byte
	numbers        map[int][]byte // of the directory's numbers, in their order
	behind         []byte         // behind these numbers
	directoryChunk []byte
	long           []byte // how long the directory's chunk is
}

// laidOf tells what the body of a log is laid of, as the chapter's words tell it.
func laidOf(t testing.TB, o api.Opts, l []api.Record) laid {
	t.Helper()
	x := laid{columns: recs.Columns(l...), index: indexOf(t, o.Bucket, len(l), l...)}
	for _, group := range plainGroups(o.Block, l) {
		x.counts = append(x.counts, uint64(len(group)))
		x.frames = append(x.frames, frameOf(t, o.Plain, plainBytes(group)))
	}
	return x
}

// or tells b, or what stands instead of it.
func or(instead, b []byte) []byte {
	if instead != nil {
		return instead
	}
	return b
}

// directory tells the directory's bytes.
func (x laid) directory() []byte {
	records := uint64(0)
	for _, n := range x.counts {
		records += n
	}
	numbers := []uint64{records, uint64(len(x.counts))}
	for k, n := range x.counts {
		numbers = append(numbers, n, uint64(len(x.frames[k])))
	}
	columns, index := or(x.columnsChunk, plainChunk(x.columns)), or(x.indexChunk, plainChunk(x.index))
	var b []byte
	for i, n := range append(numbers, uint64(len(columns)), uint64(len(index))) {
		b = append(b, or(x.numbers[i], plainNum(n))...)
	}
	return append(b, x.behind...)
}

// bytes tells all of it.
func (x laid) bytes() []byte {
	columns, index := or(x.columnsChunk, plainChunk(x.columns)), or(x.indexChunk, plainChunk(x.index))
	chunk := or(x.directoryChunk, plainChunk(x.directory()))
	long := or(x.long, binary.LittleEndian.AppendUint32(nil, uint32(len(chunk))))
	return slices.Concat(slices.Concat(x.frames...), columns, index, chunk, long)
}

// with tells what is laid, but for a change.
func (x laid) with(change func(x *laid)) laid {
	x.counts, x.frames = slices.Clone(x.counts), slices.Clone(x.frames)
	x.columns, x.index = slices.Clone(x.columns), slices.Clone(x.index)
	x.numbers = map[int][]byte{}
	change(&x)
	return x
}

// plain takes numbers and bytes, as chapter 3 tells it; an error stays.
type plain struct {
	b []byte
	e api.Errno
}

// wrong gives an error, if there is none so far.
func (p *plain) wrong(is bool, e api.Errno) {
	if is && p.e == api.OK {
		p.e = e
	}
}

// number takes a number of at most so much.
func (p *plain) number(most int) int {
	for i := 0; i < len(p.b) && p.e == api.OK; i++ {
		p.wrong(i == 9 && p.b[i] != 1 || i > 0 && p.b[i] == 0, api.ErrForm)
		if p.b[i] >= 128 {
			continue
		}
		x := 0.0 // far above each most, a float is as good as a number
		for k := i; k >= 0; k-- {
			x = 128*x + float64(p.b[k]%128)
		}
		p.wrong(x > float64(most), api.ErrLimit)
		if p.e == api.OK {
			p.b = p.b[i+1:]
			return int(x)
		}
	}
	p.wrong(true, api.ErrShort)
	return 0
}

// chunk tells the bytes of a chunk.
func (p *plain) chunk(b []byte) []byte {
	n := len(b) - 4
	p.wrong(n < 0, api.ErrShort)
	if n < 0 {
		return nil
	}
	p.wrong(!bytes.Equal(plainChunk(b[:n]), b), api.ErrSum)
	return b[:n]
}

// plainBody is a body, as the chapter's words tell it.
type plainBody struct {
	counts []int
	frames [][]byte
	times  []uint64
	levels []uint8
	index  api.Index
}

// plainOpen opens bytes, as the chapter's words tell it.
func plainOpen(o api.Opts, b []byte) (plainBody, api.Errno) {
	p := &plain{}
	p.wrong(o.Block < 16 || o.Block > 32768 || o.Bucket < 1 || o.Bucket > 64, api.ErrOpts)
	p.wrong(len(b) < 4, api.ErrShort)
	if p.e != api.OK {
		return plainBody{}, p.e
	}
	ahead := b[:len(b)-4]
	long := uint64(binary.LittleEndian.Uint32(b[len(b)-4:]))
	if long > uint64(len(ahead)) {
		return plainBody{}, api.ErrShort
	}
	p.b = p.chunk(ahead[len(ahead)-int(long):])
	ahead = ahead[:len(ahead)-int(long)]
	var x plainBody
	records := p.number(20000)
	blocks := p.number(records)
	var longs []int
	for range blocks {
		x.counts = append(x.counts, p.number(records))
		longs = append(longs, p.number(1<<23))
	}
	longs = append(longs, p.number(1<<23), p.number(1<<23))
	p.wrong(len(p.b) > 0, api.ErrForm)
	if p.e != api.OK {
		return plainBody{}, p.e
	}
	for _, n := range x.counts {
		p.wrong(n == 0, api.ErrForm)
		records -= n
	}
	p.wrong(records != 0, api.ErrForm)
	left := len(ahead)
	for _, n := range longs {
		left -= n
	}
	p.wrong(left != 0, api.ErrForm)
	if p.e != api.OK {
		return plainBody{}, p.e
	}
	x.frames = cutBy(ahead, longs)
	p.inner(&x, o.Bucket)
	if p.e != api.OK {
		return plainBody{}, p.e
	}
	return x, api.OK
}

// cutBy tells what bytes are cut into, each piece of so many.
func cutBy(b []byte, longs []int) [][]byte {
	var out [][]byte
	for _, n := range longs {
		out = append(out, b[:n])
		b = b[n:]
	}
	return out
}

// inner takes the columns and the index, which stand behind the frames.
func (p *plain) inner(x *plainBody, bucket int) {
	n, records := len(x.counts), 0
	for _, count := range x.counts {
		records += count
	}
	columns := p.chunk(x.frames[n])
	if p.e == api.OK {
		times, levels, long, e := recs.ReadColumns(records, columns)
		p.wrong(e != api.OK, e)
		p.wrong(len(columns) > long, api.ErrForm)
		x.times, x.levels = times, levels
	}
	index := p.chunk(x.frames[n+1])
	if p.e == api.OK {
		x.index, p.e = post.Read(bucket, records, index)
	}
	x.frames = x.frames[:n]
}

// fetch tells the records of a block, as the chapter's words tell it.
func (x plainBody) fetch(k int) ([]api.Record, api.Errno) {
	if k < 0 || k >= len(x.counts) {
		return nil, api.ErrArg
	}
	raw, long, e := block.Read(x.frames[k])
	if e != api.OK {
		return nil, e
	}
	if long != len(x.frames[k]) {
		return nil, api.ErrForm
	}
	l, e := recs.Read(false, raw)
	if e != api.OK {
		return nil, e
	}
	if len(l) != x.counts[k] {
		return nil, api.ErrForm
	}
	at := 0
	for _, n := range x.counts[:k] {
		at += n
	}
	for i := range l {
		l[i] = api.Record{Time: x.times[at+i], Level: x.levels[at+i], Source: l[i].Source, Text: l[i].Text}
	}
	return l, api.OK
}

// log tells all records, as the chapter's words tell it.
func (x plainBody) log() ([]api.Record, api.Errno) {
	var all []api.Record
	for k := range x.counts {
		l, e := x.fetch(k)
		if e != api.OK {
			return nil, e
		}
		all = append(all, l...)
	}
	weight := 0
	for _, r := range all {
		weight += 16 + len(r.Source+r.Text)
	}
	if weight > 1<<20 {
		return nil, api.ErrLimit
	}
	if !sameIndex(post.Build(all...), x.index) {
		return nil, api.ErrIndex
	}
	return all, api.OK
}

// blockOf tells the block of a record, as the chapter's words tell it.
func (x plainBody) blockOf(i int) (int, bool) {
	for k, n := range x.counts {
		if i >= 0 && i < n {
			return k, true
		}
		i -= n
	}
	return 0, false
}

// sameIndex tells whether two indexes are the same.
func sameIndex(x, y api.Index) bool {
	return slices.Equal(x.Terms, y.Terms) && slices.EqualFunc(x.Lists, y.Lists, slices.Equal[[]int])
}

// wantFaces sees what a body tells without a block, and that it counts these blocks as opened.
func wantFaces(t testing.TB, b *Body, want plainBody, opened ...int) {
	t.Helper()
	if b.Len() != len(want.times) || !slices.Equal(b.Blocks(), want.counts) || !slices.Equal(b.Times(), want.times) || !slices.Equal(b.Levels(), want.levels) {
		t.Fatalf("%d records, blocks %v, times %v, levels %v, not of %+v", b.Len(), few(b.Blocks()), few(b.Times()), few(b.Levels()), want)
	}
	if x := b.Index(); !sameIndex(x, want.index) {
		t.Fatalf("the index %v, not %v", x, want.index)
	}
	for i := -2; i < b.Len()+2; i++ {
		if i > 200 && i < b.Len()-200 && i%97 > 0 {
			continue
		}
		k, ok := b.Block(i)
		if wantK, wantOk := want.blockOf(i); k != wantK || ok != wantOk {
			t.Fatalf("record %d: block %d, %t, not %d, %t", i, k, ok, wantK, wantOk)
		}
	}
	wantOpened(t, b, opened...)
}

// wantOpened sees that a body counts these blocks as opened.
func wantOpened(t testing.TB, b *Body, want ...int) {
	t.Helper()
	if opened := b.Opened(); !slices.Equal(opened, want) {
		t.Fatalf("opened are %v, not %v", few(opened), few(want))
	}
}

// wantFetch sees what a body tells of a block.
func wantFetch(t testing.TB, b *Body, k int, want []api.Record, wantE api.Errno) {
	t.Helper()
	if l, e := b.Fetch(k); e != wantE || !slices.Equal(l, want) {
		t.Fatalf("block %d: %v, error %d, not %v, error %d", k, few(l), e, few(want), wantE)
	}
}

// wantLog sees what log a body tells.
func wantLog(t testing.TB, b *Body, want []api.Record, wantE api.Errno) {
	t.Helper()
	if l, e := b.Log(); e != wantE || !slices.Equal(l, want) {
		t.Fatalf("the log %v, error %d, not %v, error %d", few(l), e, few(want), wantE)
	}
}

// checkOpen holds a body of these bytes against the plain one, in all that it tells; it tells the error of opening it, and that of its log.
func checkOpen(t testing.TB, o api.Opts, given []byte) (api.Errno, api.Errno) {
	t.Helper()
	b, e := Open(o, given)
	want, wantE := plainOpen(o, given)
	if e != wantE || (b == nil) != (e != api.OK) {
		t.Fatalf("%+v, %q: a body %t, error %d, not %d", o, few(given), b != nil, e, wantE)
	}
	if e != api.OK {
		return e, api.OK
	}
	wantFaces(t, b, want)
	log, logE := want.log()
	wantLog(t, b, log, logE)
	var opened []int
	for k := len(want.counts); k >= -1; k-- {
		if k >= 0 && k < len(want.counts) {
			opened = append([]int{k}, opened...)
		}
		l, e := want.fetch(k)
		wantFetch(t, b, k, l, e)
		if len(want.counts) < 100 {
			wantOpened(t, b, opened...)
		}
	}
	wantFaces(t, b, want, opened...)
	wantLog(t, b, log, logE)
	return api.OK, logE
}

// mustOpen opens bytes that are a body.
func mustOpen(t testing.TB, o api.Opts, b []byte) *Body {
	t.Helper()
	x, e := Open(o, b)
	if e != api.OK {
		t.Fatalf("%+v, %q: error %d", o, few(b), e)
	}
	return x
}

// mustMake makes the body of a log that may be.
func mustMake(t testing.TB, o api.Opts, l ...api.Record) []byte {
	t.Helper()
	b, e := Make(o, l...)
	if e != api.OK {
		t.Fatalf("%+v, %d records: error %d", o, len(l), e)
	}
	return b
}

// wantMake sees that the body of a log is what the chapter's words tell, and that it is opened and has the log.
func wantMake(t testing.TB, o api.Opts, l ...api.Record) {
	t.Helper()
	b := mustMake(t, o, l...)
	if want := laidOf(t, o, l).bytes(); !bytes.Equal(b, want) {
		t.Fatalf("%+v, %d records %v: %q, not %q", o, len(l), few(l), few(b), few(want))
	}
	x := mustOpen(t, o, b)
	wantLog(t, x, l, api.OK)
	var all []api.Record
	for k := range x.Blocks() {
		some, _ := x.Fetch(k)
		all = append(all, some...)
	}
	if !slices.Equal(all, l) || len(x.Opened()) != len(x.Blocks()) {
		t.Fatalf("%+v, %d records %v: the blocks have %v", o, len(l), few(l), few(all))
	}
}

// someText tells a text of chance: words that often come again, or any bytes.
func someText(r *rand.Rand, long int) string {
	n := r.Intn(long + 1)
	if r.Intn(4) == 0 {
		b := make([]byte, n)
		r.Read(b)
		return string(b)
	}
	var s strings.Builder
	for s.Len() < n {
		s.WriteString([]string{"disk ", "full ", "GET /a", "ok", " ", "x1, ", "Ä"}[r.Intn(7)])
	}
	return s.String()[:n]
}

// someLog tells a log of chance, of at most n records.
func someLog(r *rand.Rand, n, long int) []api.Record {
	var l []api.Record
	for range r.Intn(n + 1) {
		l = append(l, api.Record{Time: r.Uint64() >> r.Intn(64), Level: uint8(r.Intn(3)), Source: someText(r, 6), Text: someText(r, long)})
	}
	return l
}

// someOpts tells options of chance that may be; those of stripes are of no account.
func someOpts(r *rand.Rand) api.Opts {
	return api.Opts{
		Block:  []int{16, 17, 32, 100, 1024, 32768}[r.Intn(6)],
		Plain:  r.Intn(2) == 0,
		Bucket: []int{1, 2, 3, 16, 63, 64}[r.Intn(6)],
		Data:   r.Intn(9) - 2,
		Parity: r.Intn(9) - 2,
		Chunk:  r.Intn(9) - 2,
	}
}

// same tells n records that are alike.
func same(n int, r api.Record) []api.Record { return slices.Repeat([]api.Record{r}, n) }

// xs tells a text of n bytes.
func xs(n int) string { return strings.Repeat("x", n) }
