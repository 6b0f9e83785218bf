package one

import (
	"firkin/api"
	"firkin/nums"
	"firkin/opts"
)

// The bytes that Plain may be.
const (
	notPlain = 0
	isPlain  = 1
)

// head is what an archive says ahead of its blocks.
type head struct {
	opts    api.Opts
	records int
	blocks  int
}

// bytes tells the head with its mark.
func (h head) bytes() ([]byte, api.Errno) {
	mark, e := opts.Mark(version)
	if e != api.OK {
		return nil, e
	}
	return nums.All(mark, numOf(h.opts.Block), []byte{plainByte(h.opts.Plain)}, numOf(h.records), numOf(h.blocks)), api.OK
}

// plainByte tells Plain as a byte.
func plainByte(plain bool) byte {
	if plain {
		return isPlain
	}
	return notPlain
}

// numOf tells the bytes of a number that isn't below 0.
func numOf(x int) []byte { return nums.Num(uint64(x)) }
