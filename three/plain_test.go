package three

import (
	"bytes"
	"encoding/binary"
	"fmt"
	"hash/crc32"
	"math/rand"
	"slices"
	"strings"
	"testing"

	"firkin/api"
	"firkin/block"
	"firkin/body"
	"firkin/gf"
	"firkin/post"
	"firkin/recs"
	"firkin/stripe"
)

// chance tells numbers that look like chance, the same in each run.
func chance(seed int64) *rand.Rand { return rand.New(rand.NewSource(seed)) }

// few tells the first ones of bytes, for messages.
func few(b []byte) []byte { return b[:min(len(b), 60)] }

// brief tells what a value looks like, for messages.
func brief(x any) string {
	s := fmt.Sprintf("%+v", x)
	return s[:min(len(s), 300)]
}

// plainNum tells a number's bytes, as chapter 3 tells them.
func plainNum(x uint64) []byte {
	var b []byte
	for x > 127 {
		b = append(b, byte(x%128)+128)
		x /= 128
	}
	return append(b, byte(x))
}

// plainText tells a text's bytes, as chapter 3 tells them.
func plainText(s string) []byte { return append(plainNum(uint64(len(s))), s...) }

// summed tells bytes with their sum behind them, as chapter 1 tells it.
func summed(b []byte) []byte {
	return binary.LittleEndian.AppendUint32(slices.Clone(b), crc32.ChecksumIEEE(b))
}

// isSummed tells whether the last four bytes are the sum of those ahead.
func isSummed(b []byte) bool { return bytes.Equal(b, summed(b[:len(b)-4])) }

// told is what a head tells, whether it may be or not.
type told struct {
	mark                        string
	plain, bucket, data, parity byte
	chunk, size                 uint16
	long                        uint32
}

// toldOf tells what the head of an archive tells, whose body has so many bytes.
func toldOf(o api.Opts, long int) told {
	h := told{mark: "FIRK\x03", bucket: byte(o.Bucket), data: byte(o.Data), parity: byte(o.Parity), chunk: uint16(o.Chunk), size: uint16(o.Block), long: uint32(long)}
	if o.Plain {
		h.plain = 1
	}
	return h
}

// ahead tells a head's bytes ahead of the sum.
func (h told) ahead() []byte {
	b := append([]byte(h.mark), h.plain, h.bucket, h.data, h.parity)
	b = binary.LittleEndian.AppendUint16(b, h.chunk)
	b = binary.LittleEndian.AppendUint16(b, h.size)
	return binary.LittleEndian.AppendUint32(b, h.long)
}

// bytes tells the head.
func (h told) bytes() []byte { return summed(h.ahead()) }

// laid is what an archive is laid of.
type laid struct {
	head told   // of both copies
	mid  []byte // what stands between the copies

	first, last func(b []byte) []byte // what is made of the copies
	end         func(b []byte) []byte // what is made of all of it
}

// laidOf tells what an archive with this body is laid of.
func laidOf(t testing.TB, o api.Opts, made []byte) laid {
	t.Helper()
	mid, e := stripe.Lay(o.Data, o.Parity, o.Chunk, made)
	if e != api.OK {
		t.Fatalf("%+v: %d bytes aren't laid out: error %d", o, len(made), e)
	}
	return laid{head: toldOf(o, len(made)), mid: mid}
}

// made tells what is made of bytes, if there is something that makes another thing of them.
func made(of func(b []byte) []byte, b []byte) []byte {
	if of != nil {
		return of(slices.Clone(b))
	}
	return b
}

// bytes tells all of it.
func (x laid) bytes() []byte {
	c := x.head.bytes()
	return made(x.end, slices.Concat(made(x.first, c), x.mid, made(x.last, c)))
}

// with tells what is laid, but for changes.
func (x laid) with(changes ...func(x *laid)) laid {
	x.mid = slices.Clone(x.mid)
	for _, change := range changes {
		change(&x)
	}
	return x
}

// spoilt makes bytes others, so that the last four aren't the sum any more.
func spoilt(b []byte) []byte {
	b[len(b)-1] ^= 64
	return b
}

// plainMay tells whether options may be for version 3, as chapter 19 tells it.
func plainMay(o api.Opts) bool {
	in := func(x, least, most int) bool { return x >= least && x <= most }
	return in(o.Block, 16, 32768) && in(o.Bucket, 1, 64) && in(o.Chunk, 1, 4096) &&
		in(o.Data, 1, 255) && in(o.Parity, 0, 255) && in(o.Data+o.Parity, 1, 255)
}

// plainCounts tells whether a copy counts, as the chapter's words tell it.
func plainCounts(c []byte) bool {
	return isSummed(c) && string(c[:5]) == "FIRK\x03"
}

// plainHas tells what Has tells, as the chapter's words tell it.
func plainHas(b []byte) bool {
	return len(b) >= 42 && (plainCounts(b[:21]) || plainCounts(b[len(b)-21:]))
}

// plainRead tells the options, the body and how much is damaged, as the chapter's words tell it.
func plainRead(b []byte) (api.Opts, []byte, int, api.Errno) {
	var none api.Opts
	if len(b) < 42 {
		return none, nil, 0, api.ErrShort
	}
	if !plainHas(b) {
		return none, nil, 0, api.ErrSum
	}
	c := b[len(b)-21:]
	if plainCounts(b[:21]) {
		c = b[:21]
	}
	o := api.Opts{Plain: c[5] == 1, Bucket: int(c[6]), Data: int(c[7]), Parity: int(c[8]), Chunk: int(c[9]) + 256*int(c[10]), Block: int(c[11]) + 256*int(c[12])}
	if c[5] > 1 {
		return none, nil, 0, api.ErrForm
	}
	if !plainMay(o) {
		return none, nil, 0, api.ErrOpts
	}
	long := int(c[13]) + int(c[14])<<8 + int(c[15])<<16 + int(c[16])<<24
	inner, chunks, e := stripe.Read(o.Data, o.Parity, o.Chunk, long, b[21:len(b)-21])
	if e != api.OK {
		return none, nil, 0, e
	}
	n := 0
	for range chunks {
		n++
	}
	if string(b[:21]) != string(c) || string(b[len(b)-21:]) != string(c) {
		n++
	}
	return o, inner, n, api.OK
}

// plainMended tells what Mended tells, as the chapter's words tell it.
func plainMended(t testing.TB, b []byte) ([]byte, int, api.Errno) {
	o, inner, n, e := plainRead(b)
	if e != api.OK {
		return nil, 0, e
	}
	return laidOf(t, o, inner).bytes(), n, api.OK
}

// plainOpen tells what Open tells, as the chapter's words tell it.
func plainOpen(b []byte) (api.Opts, *body.Body, int, api.Errno) {
	o, inner, n, e := plainRead(b)
	if e != api.OK {
		return api.Opts{}, nil, 0, e
	}
	x, e := body.Open(o, inner)
	if e != api.OK {
		return api.Opts{}, nil, 0, e
	}
	return o, x, n, api.OK
}

// plainUnpack tells what Unpack tells, as the chapter's words tell it.
func plainUnpack(b []byte) (api.Opts, []api.Record, int, int, api.Errno) {
	o, x, n, e := plainOpen(b)
	if e != api.OK {
		return api.Opts{}, nil, 0, 0, e
	}
	l, e := x.Log()
	if e != api.OK {
		return api.Opts{}, nil, 0, 0, e
	}
	blocks := 0
	for range x.Blocks() {
		blocks++
	}
	return o, l, blocks, n, api.OK
}

// sameIndex tells whether two indexes are the same.
func sameIndex(x, y api.Index) bool {
	return slices.Equal(x.Terms, y.Terms) && slices.EqualFunc(x.Lists, y.Lists, slices.Equal[[]int])
}

// wantBody sees that a body, which nothing was done to, tells what another one tells.
func wantBody(t testing.TB, got, want *body.Body) {
	t.Helper()
	if n := got.Len(); n != want.Len() || !slices.Equal(got.Blocks(), want.Blocks()) || !slices.Equal(got.Times(), want.Times()) || !slices.Equal(got.Levels(), want.Levels()) {
		t.Fatalf("%d records, blocks %v, times %v, levels %v", n, brief(got.Blocks()), brief(got.Times()), brief(got.Levels()))
	}
	if x := got.Index(); !sameIndex(x, want.Index()) {
		t.Fatalf("the index %v, not %v", x, want.Index())
	}
	if opened := got.Opened(); len(opened) > 0 {
		t.Fatalf("opened are %v", brief(opened))
	}
	log, e := got.Log()
	if wantLog, wantE := want.Log(); e != wantE || !slices.Equal(log, wantLog) {
		t.Fatalf("the log %v, error %d, not %v, error %d", brief(log), e, brief(wantLog), wantE)
	}
	for k := range want.Blocks() {
		some, e := got.Fetch(k)
		if wantSome, wantE := want.Fetch(k); e != wantE || !slices.Equal(some, wantSome) {
			t.Fatalf("block %d: %v, error %d, not %v, error %d", k, brief(some), e, brief(wantSome), wantE)
		}
	}
}

// errors are those of mending, of opening and of unpacking.
type errors struct{ mending, opening, unpacking api.Errno }

// checkBytes holds all that bytes are told to be against the plain words; it tells the errors.
func checkBytes(t testing.TB, b []byte) errors {
	t.Helper()
	if has, want := Has(b), plainHas(b); has != want {
		t.Fatalf("%d bytes %q: has %t", len(b), few(b), has)
	}
	var all errors
	x, n, e := Mended(b)
	wantX, wantN, wantE := plainMended(t, b)
	if !bytes.Equal(x, wantX) || n != wantN || e != wantE {
		t.Fatalf("%d bytes %q: mended to %d bytes %q, number %d, error %d, not %q, %d, %d", len(b), few(b), len(x), few(x), n, e, few(wantX), wantN, wantE)
	}
	all.mending = e
	o, y, n, e := Open(b)
	wantO, wantY, wantN, wantE := plainOpen(b)
	if o != wantO || n != wantN || e != wantE || (y == nil) != (e != api.OK) {
		t.Fatalf("%d bytes %q: opened to %+v, a body %t, number %d, error %d, not %+v, %d, %d", len(b), few(b), o, y != nil, n, e, wantO, wantN, wantE)
	}
	if e == api.OK {
		wantBody(t, y, wantY)
	}
	all.opening = e
	o, l, blocks, n, e := Unpack(b)
	wantO, wantL, wantBlocks, wantN, wantE := plainUnpack(b)
	if o != wantO || !slices.Equal(l, wantL) || blocks != wantBlocks || n != wantN || e != wantE {
		t.Fatalf("%d bytes %q: unpacked to %+v, %v, %d blocks, number %d, error %d, not %+v, %v, %d, %d, %d", len(b), few(b), o, brief(l), blocks, n, e, wantO, brief(wantL), wantBlocks, wantN, wantE)
	}
	all.unpacking = e
	return all
}

// notUnpacked sees that unpacking tells this error and nothing else.
func notUnpacked(t testing.TB, what string, b []byte, want api.Errno) {
	t.Helper()
	if o, l, blocks, n, e := Unpack(b); o != (api.Opts{}) || len(l) != 0 || blocks != 0 || n != 0 || e != want {
		t.Errorf("%s: unpacked to %+v, %v, %d blocks, number %d, error %d, not %d", what, o, brief(l), blocks, n, e, want)
	}
}

// notOpened sees that opening and unpacking tell this error and nothing else.
func notOpened(t testing.TB, what string, b []byte, want api.Errno) {
	t.Helper()
	if o, x, n, e := Open(b); o != (api.Opts{}) || x != nil || n != 0 || e != want {
		t.Errorf("%s: opened to %+v, a body %t, number %d, error %d, not %d", what, o, x != nil, n, e, want)
	}
	notUnpacked(t, what, b, want)
}

// wantRefused sees that mending, opening and unpacking tell this error and nothing else, and that the plain words tell it, too.
func wantRefused(t testing.TB, what string, b []byte, want api.Errno) {
	t.Helper()
	if x, n, e := Mended(b); len(x) != 0 || n != 0 || e != want {
		t.Errorf("%s: mended to %d bytes, number %d, error %d, not %d", what, len(x), n, e, want)
	}
	if _, _, _, e := plainRead(b); e != want {
		t.Errorf("%s: as the words tell it, error %d, not %d", what, e, want)
	}
	if has := Has(b); has != plainHas(b) {
		t.Errorf("%s: has %t", what, has)
	}
	notOpened(t, what, b, want)
}

// wantMended sees that bytes are mended to these, with this number.
func wantMended(t testing.TB, what string, b, want []byte, bad int) {
	t.Helper()
	x, n, e := Mended(b)
	if !bytes.Equal(x, want) || n != bad || e != api.OK || !Has(b) {
		t.Fatalf("%s: mended to %d bytes (the same: %t), number %d, error %d, has %t, not %d bytes, %d", what, len(x), bytes.Equal(x, want), n, e, Has(b), len(want), bad)
	}
}

// wantUnpacked sees that bytes are opened and unpacked to these.
func wantUnpacked(t testing.TB, what string, b []byte, o api.Opts, l []api.Record, blocks, bad int) {
	t.Helper()
	got, log, many, n, e := Unpack(b)
	if got != o || !slices.Equal(log, l) || many != blocks || n != bad || e != api.OK {
		t.Fatalf("%s: %+v, %v, %d blocks, number %d, error %d, not %+v, %v, %d, %d", what, got, brief(log), many, n, e, o, brief(l), blocks, bad)
	}
	got, x, n, e := Open(b)
	if got != o || n != bad || e != api.OK || x == nil {
		t.Fatalf("%s: opened to %+v, number %d, error %d, not %+v, %d", what, got, n, e, o, bad)
	}
	if log, e := x.Log(); e != api.OK || !slices.Equal(log, l) || x.Len() != len(l) || len(x.Blocks()) != blocks || len(x.Opened()) != 0 {
		t.Fatalf("%s: the body has %v, error %d, not %v", what, brief(log), e, brief(l))
	}
}

// mustMake makes the body of a log that may be.
func mustMake(t testing.TB, o api.Opts, l ...api.Record) []byte {
	t.Helper()
	inner, e := body.Make(o, l...)
	if e != api.OK {
		t.Fatalf("%+v, the body of %d records: error %d", o, len(l), e)
	}
	return inner
}

// mustPack packs a log that may be.
func mustPack(t testing.TB, o api.Opts, l ...api.Record) []byte {
	t.Helper()
	b, e := Pack(o, l...)
	if e != api.OK {
		t.Fatalf("%+v, %d records: error %d", o, len(l), e)
	}
	return b
}

// wantPack sees that the archive of a log is what the chapters' words tell, and that it is mended and unpacked to these.
func wantPack(t testing.TB, o api.Opts, l ...api.Record) {
	t.Helper()
	b := mustPack(t, o, l...)
	if want := laidOf(t, o, mustMake(t, o, l...)).bytes(); !bytes.Equal(b, want) {
		t.Fatalf("%+v, %d records %v: %q, not %q", o, len(l), brief(l), few(b), few(want))
	}
	blocks := len(recs.Groups(o.Block, false, l...))
	for _, x := range [][]byte{b, append(slices.Clone(b), "spare room"...)[:len(b)]} {
		wantMended(t, "what was packed", x, b, 0)
		wantUnpacked(t, "what was packed", x, o, l, blocks, 0)
	}
}

// chunkBytesAt tells the bytes of a chunk with its sum, in the archive itself.
func chunkBytesAt(o api.Opts, b []byte, number int) []byte {
	return b[21+number*(o.Chunk+4):][:o.Chunk+4]
}

// chunksOf tells how many chunks an archive has.
func chunksOf(o api.Opts, b []byte) int { return (len(b) - 42) / (o.Chunk + 4) }

// spoilChunk changes a chunk of an archive so that it isn't good any more, in another way for each kind.
func spoilChunk(o api.Opts, b []byte, number, kind int) {
	c := chunkBytesAt(o, b, number)
	switch kind % 5 {
	case 0:
		c[0] ^= 1
	case 1:
		c[len(c)-1] ^= 128
	case 2:
		c[o.Chunk-1] ^= 255
	case 3:
		copy(c[o.Chunk:], []byte{1, 2, 3, 4})
	case 4:
		clear(c)
	}
	if isSummed(c) {
		c[0] ^= 1
	}
}

// spoilCopy changes a copy of the head so that it doesn't count any more, in another way for each kind.
func spoilCopy(c []byte, kind int) {
	switch kind % 5 {
	case 0:
		c[0] ^= 1
	case 1:
		c[20] ^= 128
	case 2:
		clear(c)
	case 3:
		copy(c, summed(append([]byte("FIRK\x02"), c[5:17]...)))
	case 4:
		c[6]++
	}
}

// times tells bytes, each of them times an element.
func times(by byte, s string) string {
	b := []byte(s)
	for i, x := range b {
		b[i] = gf.Mul(by, x)
	}
	return string(b)
}

// plus tells the sums of bytes, as elements.
func plus(s, other string) string {
	b := []byte(s)
	for i := range b {
		b[i] ^= other[i]
	}
	return string(b)
}

// plainRecords tells records as bytes, not whole, as chapter 17 tells them.
func plainRecords(l ...api.Record) []byte {
	var b []byte
	for _, r := range l {
		b = append(append(b, plainText(r.Source)...), plainText(r.Text)...)
	}
	return b
}

// rawFrame tells a frame of these parts, whether they fit each other or not, as chapter 12 tells it.
func rawFrame(way byte, many int, follows string) []byte {
	return summed(slices.Concat([]byte{way}, plainNum(uint64(many)), plainText(follows)))
}

// frameOf tells the frame of bytes, plain.
func frameOf(t testing.TB, b []byte) []byte {
	t.Helper()
	frame, e := block.Write(b, true)
	if e != api.OK {
		t.Fatalf("a frame of %d bytes: error %d", len(b), e)
	}
	return frame
}

// indexOf tells the index of a log as bytes, for buckets of one term.
func indexOf(t testing.TB, l ...api.Record) []byte {
	t.Helper()
	b, e := post.Bytes(1, len(l), post.Build(l...))
	if e != api.OK {
		t.Fatalf("the index of %d records: error %d", len(l), e)
	}
	return b
}

// innards are what a body is put together of, for buckets of one term.
type innards struct {
	counts         []int    // of each block, how many records it has
	frames         [][]byte // of each block
	columns, index []byte
	more           string // behind the directory's numbers
}

// innardsOf tells what the body of a log is put together of, in plain blocks of a record each.
func innardsOf(t testing.TB, l ...api.Record) innards {
	t.Helper()
	x := innards{columns: recs.Columns(l...), index: indexOf(t, l...)}
	for _, r := range l {
		x.counts = append(x.counts, 1)
		x.frames = append(x.frames, frameOf(t, plainRecords(r)))
	}
	return x
}

// with tells what a body is put together of, but for a change.
func (x innards) with(change func(x *innards)) innards {
	x.counts, x.frames = slices.Clone(x.counts), slices.Clone(x.frames)
	change(&x)
	return x
}

// bytes tells the body, as chapter 20 tells it.
func (x innards) bytes() []byte {
	records := 0
	var each []byte
	for k, n := range x.counts {
		records += n
		each = slices.Concat(each, plainNum(uint64(n)), plainNum(uint64(len(x.frames[k]))))
	}
	columns, index := summed(x.columns), summed(x.index)
	directory := slices.Concat(plainNum(uint64(records)), plainNum(uint64(len(x.counts))), each, plainNum(uint64(len(columns))), plainNum(uint64(len(index))), []byte(x.more))
	chunk := summed(directory)
	return slices.Concat(slices.Concat(x.frames...), columns, index, chunk, binary.LittleEndian.AppendUint32(nil, uint32(len(chunk))))
}

// someText tells a text of chance: words that often come again, or any bytes.
func someText(r *rand.Rand, long int) string {
	n := r.Intn(long + 1)
	if r.Intn(4) == 0 {
		b := make([]byte, n)
		r.Read(b)
		return string(b)
	}
	var s strings.Builder
	for s.Len() < n {
		s.WriteString([]string{"disk ", "full ", "GET /a", "ok", " ", "x1, ", "Ä"}[r.Intn(7)])
	}
	return s.String()[:n]
}

// someLog tells a log of chance, of at most n records.
func someLog(r *rand.Rand, n, long int) []api.Record {
	var l []api.Record
	for range r.Intn(n + 1) {
		l = append(l, api.Record{Time: r.Uint64() >> r.Intn(64), Level: uint8(r.Intn(3)), Source: someText(r, 6), Text: someText(r, long)})
	}
	return l
}

// someOpts tells options of chance that may be.
func someOpts(r *rand.Rand) api.Opts {
	return api.Opts{
		Block:  []int{16, 17, 32, 100, 1024, 32768}[r.Intn(6)],
		Plain:  r.Intn(2) == 0,
		Bucket: []int{1, 2, 3, 16, 63, 64}[r.Intn(6)],
		Data:   []int{1, 2, 3, 4, 5, 10}[r.Intn(6)],
		Parity: []int{0, 1, 2, 3, 4, 7}[r.Intn(6)],
		Chunk:  []int{1, 2, 7, 16, 64, 255, 256, 4096}[r.Intn(8)],
	}
}

// same tells n records that are alike.
func same(n int, r api.Record) []api.Record { return slices.Repeat([]api.Record{r}, n) }

// xs tells a text of n bytes.
func xs(n int) string { return strings.Repeat("x", n) }

// turned tells bytes with a bit turned in one, that is counted from the last one on if it is below 0.
func turned(b []byte, at int) []byte {
	b = slices.Clone(b)
	b[(at+len(b))%len(b)] ^= 4
	return b
}
