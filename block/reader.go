package block

import (
	"firkin/api"
	"firkin/crc"
	"firkin/nums"
)

const (
	sumBytes   = 4
	numberMost = 3                                        // bytes of a number that is MaxRaw at most
	frameMost  = 1 + 2*numberMost + api.MaxRaw + sumBytes // bytes of a frame
	times      = 1032                                     // how many bytes each byte that follows may be of
	beside     = 64                                       // and how many beside these
)

// reader takes the frame that bytes begin with; its cursor keeps the first error, and takes nothing any more behind it.
type reader struct {
	*nums.Cursor
	b []byte
}

// readerOf makes a reader of no more bytes than a frame may have: a cursor copies its bytes, and many frames may stand behind this one.
func readerOf(b []byte) *reader {
	b = b[:min(len(b), frameMost)]
	return &reader{Cursor: nums.New(b), b: b}
}

// frame takes the frame, whatever its bytes say.
func (r *reader) frame() frame {
	var f frame
	f.way = r.way()
	f.many = r.Int(api.MaxRaw)
	n := r.Int(api.MaxRaw)
	if f.many > times*n+beside {
		r.Fail(api.ErrLimit)
	}
	f.follows = r.Take(n)
	r.sum()
	return f
}

// way takes the way.
func (r *reader) way() int {
	way := int(r.Byte())
	if way > squeezed {
		r.Fail(api.ErrForm)
	}
	return way
}

// sum takes the sum, which must be that of all that is taken ahead of it.
func (r *reader) sum() {
	ahead := r.b[:r.At()]
	if uint32(r.Fixed(sumBytes)) != crc.Sum(ahead) {
		r.Fail(api.ErrSum)
	}
}

// raw tells the bytes of a frame that was taken, if nothing was wrong with it.
func (r *reader) raw(f frame) []byte {
	if r.Err() != api.OK {
		return nil
	}
	b, e := f.raw()
	r.Fail(e)
	return b
}
