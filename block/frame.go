package block

import (
	"firkin/api"
	"firkin/crc"
	"firkin/lz"
	"firkin/nums"
	"firkin/toks"
)

// The ways.
const (
	asTheyAre = 0
	squeezed  = 1
)

// frame is what a frame says.
type frame struct {
	way     int
	many    int    // how many bytes it is of
	follows []byte // these, or the bits of their tokens
}

// bytes tells the frame itself, with its sum.
func (f frame) bytes() []byte {
	return crc.Put(nums.All([]byte{byte(f.way)}, nums.Num(uint64(f.many)), nums.Num(uint64(len(f.follows))), f.follows))
}

// raw tells the bytes that the frame is of.
func (f frame) raw() ([]byte, api.Errno) {
	b := f.follows
	if f.way == squeezed {
		var e api.Errno
		if b, e = unsqueeze(f.follows, f.many); e != api.OK {
			return nil, e
		}
	}
	if len(b) != f.many {
		return nil, api.ErrForm
	}
	return b, api.OK
}

// squeeze tells the bits of the tokens of bytes.
func squeeze(b []byte) ([]byte, api.Errno) {
	return toks.Write(lz.Find(b))
}

// unsqueeze tells the bytes whose tokens bits are of, if they are no more than most.
func unsqueeze(bits []byte, most int) ([]byte, api.Errno) {
	l, e := toks.Read(bits, most)
	if e != api.OK {
		return nil, e
	}
	return lz.Play(l, most)
}
