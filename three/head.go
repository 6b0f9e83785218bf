package three

import (
	"firkin/api"
	"firkin/crc"
	"firkin/nums"
	"firkin/opts"
)

// Bytes of the parts of a head, and of all of it.
const (
	markBytes   = len(api.Magic) + 1
	optionBytes = 1 // of Plain, Bucket, Data, Parity each
	chunkBytes  = 2
	blockBytes  = 2
	longBytes   = 4
	sumBytes    = 4
	headBytes   = markBytes + 4*optionBytes + chunkBytes + blockBytes + longBytes + sumBytes
)

// The bytes that Plain may be.
const (
	notPlain = 0
	isPlain  = 1
)

// head is what an archive says of itself: its options, and how many bytes the body has.
type head struct {
	api.Opts
	long int
}

// bytes tells a head as bytes.
func (h head) bytes() ([]byte, api.Errno) {
	b, e := opts.Mark(version)
	if e != api.OK {
		return nil, e
	}
	for _, part := range h.parts() {
		fixed, e := nums.Fixed(uint64(part.is), part.bytes)
		if e != api.OK {
			return nil, e
		}
		b = append(b, fixed...)
	}
	return crc.Put(b), api.OK
}

// part is a number of a head, and how many bytes it has there.
type part struct{ is, bytes int }

// parts tells what stands between the mark and the sum.
func (h head) parts() []part {
	return []part{
		{h.plain(), optionBytes},
		{h.Bucket, optionBytes},
		{h.Data, optionBytes},
		{h.Parity, optionBytes},
		{h.Chunk, chunkBytes},
		{h.Block, blockBytes},
		{h.long, longBytes},
	}
}

// plain tells Plain as a number.
func (h head) plain() int {
	if h.Plain {
		return isPlain
	}
	return notPlain
}

// headOf tells the head of a copy that counts.
func headOf(c []byte) (head, api.Errno) {
	r := nums.New(c)
	r.Take(markBytes)
	var h head
	plain := r.Byte()
	h.Plain = plain == isPlain
	h.Bucket = int(r.Fixed(optionBytes))
	h.Data = int(r.Fixed(optionBytes))
	h.Parity = int(r.Fixed(optionBytes))
	h.Chunk = int(r.Fixed(chunkBytes))
	h.Block = int(r.Fixed(blockBytes))
	h.long = int(r.Fixed(longBytes))
	if plain > isPlain {
		return head{}, api.ErrForm
	}
	if e := opts.Check(version, h.Opts); e != api.OK {
		return head{}, e
	}
	return h, api.OK
}

// counts tells whether a copy does.
func counts(c []byte) bool {
	if _, e := crc.Cut(c); e != api.OK {
		return false
	}
	marked, e := opts.Marked(c)
	return e == api.OK && marked == version
}
