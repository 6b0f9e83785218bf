package two

import (
	"firkin/api"
	"firkin/crc"
	"firkin/nums"
	"firkin/opts"
)

// Bytes of the parts of a head.
const (
	markBytes   = len(api.Magic) + 1
	numberBytes = 10 // at most
	plainBytes  = 1
	sumBytes    = 4
	mostBytes   = markBytes + numberBytes + plainBytes + numberBytes + sumBytes
)

// The bytes that Plain may be.
const (
	notPlain = 0
	isPlain  = 1
)

// headOf tells the head of an archive with these options.
func headOf(o api.Opts) ([]byte, api.Errno) {
	mark, e := opts.Mark(version)
	if e != api.OK {
		return nil, e
	}
	return crc.Put(nums.All(mark, numOf(o.Block), []byte{plainByte(o.Plain)}, numOf(o.Bucket))), api.OK
}

// plainByte tells Plain as a byte.
func plainByte(plain bool) byte {
	if plain {
		return isPlain
	}
	return notPlain
}

// numOf tells the bytes of a number that isn't below 0.
func numOf(x int) []byte { return nums.Num(uint64(x)) }

// readHead tells the options of the head that the bytes begin with, and how long it is.
func readHead(b []byte) (api.Opts, int, api.Errno) {
	marked, e := opts.Marked(b)
	switch {
	case e != api.OK:
		return api.Opts{}, 0, e
	case marked != version:
		return api.Opts{}, 0, api.ErrVersion
	}
	r := readerOf(b)
	o := r.head()
	if e := r.Err(); e != api.OK {
		return api.Opts{}, 0, e
	}
	return o, r.At(), api.OK
}

// reader takes a head; its cursor keeps the first error, and takes nothing any more behind it.
type reader struct {
	*nums.Cursor
	b []byte
}

// readerOf makes a reader at the first of the bytes.
// It has no more of them than a head may be: a cursor keeps a copy, and the body may be long.
func readerOf(b []byte) *reader {
	b = b[:min(len(b), mostBytes)]
	return &reader{Cursor: nums.New(b), b: b}
}

// head takes the head, its mark unseen.
func (r *reader) head() api.Opts {
	var o api.Opts
	r.Take(markBytes)
	o.Block = r.Int(api.MaxRaw)
	o.Plain = r.plain()
	o.Bucket = r.Int(api.MaxBucket)
	r.sum()
	r.Fail(opts.Check(version, o))
	return o
}

// plain takes Plain.
func (r *reader) plain() bool {
	b := r.Byte()
	if b > isPlain {
		r.Fail(api.ErrForm)
	}
	return b == isPlain
}

// sum takes the sum, which must be that of all that is taken ahead of it.
func (r *reader) sum() {
	want := crc.Sum(r.b[:r.At()])
	if r.Fixed(sumBytes) != uint64(want) {
		r.Fail(api.ErrSum)
	}
}
