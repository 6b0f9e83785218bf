package two

import (
	"bytes"
	"encoding/binary"
	"hash/crc32"
	"math/rand"
	"slices"
	"strings"
	"testing"

	"firkin/api"
	"firkin/block"
	"firkin/body"
	"firkin/post"
	"firkin/recs"
)

// chance tells numbers that look like chance, the same in each run.
func chance(seed int64) *rand.Rand { return rand.New(rand.NewSource(seed)) }

// few tells the first ones of a list, for messages.
func few[T any](l []T) []T { return l[:min(len(l), 60)] }

// plainNum tells a number's bytes, as chapter 3 tells them.
func plainNum(x uint64) []byte {
	var b []byte
	for x > 127 {
		b = append(b, byte(x%128)+128)
		x /= 128
	}
	return append(b, byte(x))
}

// plainText tells a text's bytes, as chapter 3 tells them.
func plainText(s string) []byte { return append(plainNum(uint64(len(s))), s...) }

// summed tells bytes with their sum behind them, as chapter 1 tells it.
func summed(b []byte) []byte {
	return binary.LittleEndian.AppendUint32(slices.Clone(b), crc32.ChecksumIEEE(b))
}

// plainRecords tells records as bytes, not whole, as chapter 17 tells them.
func plainRecords(l ...api.Record) []byte {
	var b []byte
	for _, r := range l {
		b = append(append(b, plainText(r.Source)...), plainText(r.Text)...)
	}
	return b
}

// plainGroups tells the groups of a log, as chapter 17 tells them.
func plainGroups(size int, l []api.Record) [][]api.Record {
	var groups [][]api.Record
	long := 0
	for _, r := range l {
		n := len(plainRecords(r))
		if len(groups) > 0 && long+n <= size {
			long += n
			groups[len(groups)-1] = append(groups[len(groups)-1], r)
			continue
		}
		long = n
		groups = append(groups, []api.Record{r})
	}
	return groups
}

// frameOf tells the frame of bytes.
func frameOf(t testing.TB, plain bool, b []byte) []byte {
	t.Helper()
	frame, e := block.Write(b, plain)
	if e != api.OK {
		t.Fatalf("a frame of %d bytes: error %d", len(b), e)
	}
	return frame
}

// rawFrame tells a frame of these parts, whether they fit each other or not, as chapter 12 tells it.
func rawFrame(way byte, many int, follows string) []byte {
	return summed(slices.Concat([]byte{way}, plainNum(uint64(many)), plainText(follows)))
}

// indexOf tells the index of a log as bytes, for buckets of this size.
func indexOf(t testing.TB, bucket int, l ...api.Record) []byte {
	t.Helper()
	b, e := post.Bytes(bucket, len(l), post.Build(l...))
	if e != api.OK {
		t.Fatalf("the index of %d records: error %d", len(l), e)
	}
	return b
}

// laid is what an archive is laid of. What isn't nil or 0 at its end stands there instead of what fits the rest.
type laid struct {
	mark    string
	size    uint64
	plain   byte
	bucket  uint64
	counts  []int    // of each block, how many records it has
	frames  [][]byte // of each block
	columns []byte
	index   []byte

	sizeBytes   []byte
	bucketBytes []byte
	parts       int                   // of mark, Block, Plain, Bucket, the sum so many are there, and no body
	sum         func(b []byte) []byte // what is made of the head with its sum
	directory   func(b []byte) []byte // what is made of the directory's bytes
	body        func(b []byte) []byte // what is made of the body
	last        func(b []byte) []byte // what is made of all of it
}

// laidOf tells what the archive of a log is laid of, as the chapters' words tell it.
func laidOf(t testing.TB, o api.Opts, l []api.Record) laid {
	t.Helper()
	x := laid{mark: "FIRK\x02", size: uint64(o.Block), bucket: uint64(o.Bucket), columns: recs.Columns(l...), index: indexOf(t, o.Bucket, l...)}
	if o.Plain {
		x.plain = 1
	}
	for _, group := range plainGroups(o.Block, l) {
		x.counts = append(x.counts, len(group))
		x.frames = append(x.frames, frameOf(t, o.Plain, plainRecords(group...)))
	}
	return x
}

// or tells b, or what stands instead of it.
func or(instead, b []byte) []byte {
	if instead != nil {
		return instead
	}
	return b
}

// made tells what is made of bytes, if there is something that makes another thing of them.
func made(of func(b []byte) []byte, b []byte) []byte {
	if of != nil {
		return of(b)
	}
	return b
}

// head tells the head.
func (x laid) head() []byte {
	parts := [][]byte{[]byte(x.mark), or(x.sizeBytes, plainNum(x.size)), {x.plain}, or(x.bucketBytes, plainNum(x.bucket))}
	if x.parts > 0 && x.parts < 5 {
		return slices.Concat(parts[:x.parts]...)
	}
	return made(x.sum, summed(slices.Concat(parts...)))
}

// blocks tells the body.
func (x laid) blocks() []byte {
	records := 0
	var each []byte
	for k, n := range x.counts {
		records += n
		each = slices.Concat(each, plainNum(uint64(n)), plainNum(uint64(len(x.frames[k]))))
	}
	columns, index := summed(x.columns), summed(x.index)
	directory := slices.Concat(plainNum(uint64(records)), plainNum(uint64(len(x.counts))), each, plainNum(uint64(len(columns))), plainNum(uint64(len(index))))
	chunk := summed(made(x.directory, directory))
	long := binary.LittleEndian.AppendUint32(nil, uint32(len(chunk)))
	return made(x.body, slices.Concat(slices.Concat(x.frames...), columns, index, chunk, long))
}

// bytes tells all of it.
func (x laid) bytes() []byte {
	b := x.head()
	if x.parts == 0 {
		b = append(b, x.blocks()...)
	}
	return made(x.last, b)
}

// with tells what is laid, but for a change.
func (x laid) with(change func(x *laid)) laid {
	x.counts, x.frames = slices.Clone(x.counts), slices.Clone(x.frames)
	change(&x)
	return x
}

// plain takes numbers and bytes, as chapter 3 tells it; an error stays.
type plain struct {
	b []byte
	e api.Errno
}

// wrong gives an error, if there is none so far.
func (p *plain) wrong(is bool, e api.Errno) {
	if is && p.e == api.OK {
		p.e = e
	}
}

// number takes a number of at most so much.
func (p *plain) number(most int) int {
	for i := 0; i < len(p.b) && p.e == api.OK; i++ {
		p.wrong(i == 9 && p.b[i] != 1 || i > 0 && p.b[i] == 0, api.ErrForm)
		if p.b[i] >= 128 {
			continue
		}
		x := 0.0 // far above each most, a float is as good as a number
		for k := i; k >= 0; k-- {
			x = 128*x + float64(p.b[k]%128)
		}
		p.wrong(x > float64(most), api.ErrLimit)
		if p.e == api.OK {
			p.b = p.b[i+1:]
			return int(x)
		}
	}
	p.wrong(true, api.ErrShort)
	return 0
}

// plainOpen opens bytes, as the chapter's words tell it.
func plainOpen(b []byte) (api.Opts, *body.Body, api.Errno) {
	p := &plain{}
	p.wrong(len(b) < 5, api.ErrShort)
	p.wrong(!strings.HasPrefix(string(b), "FIRK"), api.ErrMagic)
	p.wrong(!strings.HasPrefix(string(b), "FIRK\x02"), api.ErrVersion)
	if p.e != api.OK {
		return api.Opts{}, nil, p.e
	}
	p.b = b[5:]
	size := p.number(32768)
	p.wrong(len(p.b) < 1, api.ErrShort)
	if p.e != api.OK {
		return api.Opts{}, nil, p.e
	}
	flag := p.b[0]
	p.b = p.b[1:]
	p.wrong(flag > 1, api.ErrForm)
	bucket := p.number(64)
	p.wrong(len(p.b) < 4, api.ErrShort)
	if p.e != api.OK {
		return api.Opts{}, nil, p.e
	}
	ahead := b[:len(b)-len(p.b)]
	p.wrong(!bytes.HasPrefix(b, summed(ahead)), api.ErrSum)
	p.wrong(size < 16 || bucket < 1, api.ErrOpts)
	if p.e != api.OK {
		return api.Opts{}, nil, p.e
	}
	o := api.Opts{Block: size, Plain: flag == 1, Bucket: bucket}
	x, e := body.Open(o, p.b[4:])
	if e != api.OK {
		return api.Opts{}, nil, e
	}
	return o, x, api.OK
}

// plainUnpack unpacks bytes, as the chapter's words tell it.
func plainUnpack(b []byte) (api.Opts, []api.Record, int, api.Errno) {
	o, x, e := plainOpen(b)
	if e != api.OK {
		return api.Opts{}, nil, 0, e
	}
	l, e := x.Log()
	if e != api.OK {
		return api.Opts{}, nil, 0, e
	}
	blocks := 0
	for range x.Blocks() {
		blocks++
	}
	return o, l, blocks, api.OK
}

// sameIndex tells whether two indexes are the same.
func sameIndex(x, y api.Index) bool {
	return slices.Equal(x.Terms, y.Terms) && slices.EqualFunc(x.Lists, y.Lists, slices.Equal[[]int])
}

// wantBody sees that a body, which nothing was done to, tells what another one tells.
func wantBody(t testing.TB, got, want *body.Body) {
	t.Helper()
	if n := got.Len(); n != want.Len() || !slices.Equal(got.Blocks(), want.Blocks()) || !slices.Equal(got.Times(), want.Times()) || !slices.Equal(got.Levels(), want.Levels()) {
		t.Fatalf("%d records, blocks %v, times %v, levels %v", n, few(got.Blocks()), few(got.Times()), few(got.Levels()))
	}
	if x := got.Index(); !sameIndex(x, want.Index()) {
		t.Fatalf("the index %v, not %v", x, want.Index())
	}
	if opened := got.Opened(); len(opened) > 0 {
		t.Fatalf("opened are %v", few(opened))
	}
	log, e := got.Log()
	if wantLog, wantE := want.Log(); e != wantE || !slices.Equal(log, wantLog) {
		t.Fatalf("the log %v, error %d, not %v, error %d", few(log), e, few(wantLog), wantE)
	}
	for k := range want.Blocks() {
		some, e := got.Fetch(k)
		if wantSome, wantE := want.Fetch(k); e != wantE || !slices.Equal(some, wantSome) {
			t.Fatalf("block %d: %v, error %d, not %v, error %d", k, few(some), e, few(wantSome), wantE)
		}
	}
}

// checkBytes holds what bytes are opened and unpacked to against the plain words; it tells both errors.
func checkBytes(t testing.TB, b []byte) (opening, unpacking api.Errno) {
	t.Helper()
	o, x, e := Open(b)
	wantO, want, wantE := plainOpen(b)
	if o != wantO || e != wantE || (x == nil) != (e != api.OK) {
		t.Fatalf("%d bytes %q: opened to %+v, a body %t, error %d, not %+v, %d", len(b), few(b), o, x != nil, e, wantO, wantE)
	}
	if e == api.OK {
		wantBody(t, x, want)
	}
	o, l, blocks, unpacking := Unpack(b)
	wantO, wantL, wantBlocks, wantE := plainUnpack(b)
	if o != wantO || !slices.Equal(l, wantL) || blocks != wantBlocks || unpacking != wantE {
		t.Fatalf("%d bytes %q: unpacked to %+v, %v, %d blocks, error %d, not %+v, %v, %d, %d", len(b), few(b), o, few(l), blocks, unpacking, wantO, few(wantL), wantBlocks, wantE)
	}
	return e, unpacking
}

// wantRefused sees that opening and unpacking bytes tell this error and nothing else, and that the plain words tell it, too.
func wantRefused(t testing.TB, what string, b []byte, want api.Errno) {
	t.Helper()
	if o, x, e := Open(b); o != (api.Opts{}) || x != nil || e != want {
		t.Errorf("%s: opened to %+v, a body %t, error %d, not %d", what, o, x != nil, e, want)
	}
	if _, _, e := plainOpen(b); e != want {
		t.Errorf("%s: opened as the words tell it, error %d, not %d", what, e, want)
	}
	if o, l, blocks, e := Unpack(b); o != (api.Opts{}) || len(l) != 0 || blocks != 0 || e != want {
		t.Errorf("%s: unpacked to %+v, %v, %d blocks, error %d, not %d", what, o, few(l), blocks, e, want)
	}
}

// wantNoLog sees that bytes are opened, and that unpacking them tells this error and nothing else.
func wantNoLog(t testing.TB, what string, b []byte, want api.Errno) {
	t.Helper()
	if opening, e := checkBytes(t, b); opening != api.OK || e != want {
		t.Errorf("%s: opened with error %d, unpacked with error %d, not %d", what, opening, e, want)
	}
	if o, l, blocks, e := Unpack(b); o != (api.Opts{}) || len(l) != 0 || blocks != 0 || e != want {
		t.Errorf("%s: unpacked to %+v, %v, %d blocks, error %d, not %d", what, o, few(l), blocks, e, want)
	}
}

// wantUnpacked sees that bytes are opened and unpacked to these.
func wantUnpacked(t testing.TB, b []byte, o api.Opts, l []api.Record, blocks int) {
	t.Helper()
	got, log, n, e := Unpack(b)
	if got != o || !slices.Equal(log, l) || n != blocks || e != api.OK {
		t.Fatalf("%d bytes %q: %+v, %v, %d blocks, error %d, not %+v, %v, %d", len(b), few(b), got, few(log), n, e, o, few(l), blocks)
	}
	got, x, e := Open(b)
	if got != o || e != api.OK || x == nil {
		t.Fatalf("%d bytes %q: opened to %+v, error %d, not %+v", len(b), few(b), got, e, o)
	}
	if log, e := x.Log(); e != api.OK || !slices.Equal(log, l) || x.Len() != len(l) || len(x.Blocks()) != blocks || len(x.Opened()) != 0 {
		t.Fatalf("%d bytes %q: the body has %v, error %d, not %v", len(b), few(b), few(log), e, few(l))
	}
}

// mustPack packs a log that may be.
func mustPack(t testing.TB, o api.Opts, l ...api.Record) []byte {
	t.Helper()
	b, e := Pack(o, l...)
	if e != api.OK {
		t.Fatalf("%+v, %d records: error %d", o, len(l), e)
	}
	return b
}

// wantPack sees that the archive of a log is what the chapters' words tell, and that it is unpacked to these.
func wantPack(t testing.TB, o api.Opts, l ...api.Record) {
	t.Helper()
	b := mustPack(t, o, l...)
	x := laidOf(t, o, l)
	if want := x.bytes(); !bytes.Equal(b, want) {
		t.Fatalf("%+v, %d records %v: %q, not %q", o, len(l), few(l), few(b), few(want))
	}
	wantUnpacked(t, b, o, l, len(x.frames))
	wantUnpacked(t, append(b, "spare room"...)[:len(b)], o, l, len(x.frames))
}

// someText tells a text of chance: words that often come again, or any bytes.
func someText(r *rand.Rand, long int) string {
	n := r.Intn(long + 1)
	if r.Intn(4) == 0 {
		b := make([]byte, n)
		r.Read(b)
		return string(b)
	}
	var s strings.Builder
	for s.Len() < n {
		s.WriteString([]string{"disk ", "full ", "GET /a", "ok", " ", "x1, ", "Ä"}[r.Intn(7)])
	}
	return s.String()[:n]
}

// someLog tells a log of chance, of at most n records.
func someLog(r *rand.Rand, n, long int) []api.Record {
	var l []api.Record
	for range r.Intn(n + 1) {
		l = append(l, api.Record{Time: r.Uint64() >> r.Intn(64), Level: uint8(r.Intn(3)), Source: someText(r, 6), Text: someText(r, long)})
	}
	return l
}

// someOpts tells options of chance that may be.
func someOpts(r *rand.Rand) api.Opts {
	return api.Opts{
		Block:  []int{16, 17, 32, 100, 1024, 32768}[r.Intn(6)],
		Plain:  r.Intn(2) == 0,
		Bucket: []int{1, 2, 3, 16, 63, 64}[r.Intn(6)],
	}
}

// same tells n records that are alike.
func same(n int, r api.Record) []api.Record { return slices.Repeat([]api.Record{r}, n) }

// xs tells a text of n bytes.
func xs(n int) string { return strings.Repeat("x", n) }

// turned tells bytes with a bit turned in one, that is counted from the last one on if it is below 0.
func turned(b []byte, at int) []byte {
	b = slices.Clone(b)
	b[(at+len(b))%len(b)] ^= 4
	return b
}
