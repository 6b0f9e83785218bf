package nums

import "firkin/api"

// row is a row of bytes. Its reading methods look at what it begins with; if nothing is wrong there,
// they hand this on, with the bytes behind it, and what goes on from there tells the error.
type row []byte

// number hands on the number that the row begins with.
func (r row) number(then func(x uint64, behind row) api.Errno) api.Errno {
	var x uint64
	for i, b := range r {
		if i == numberBytes-1 && b != 1 || i > 0 && b == 0 {
			return api.ErrForm
		}
		x |= uint64(b&^more) << (sevenBits * i)
		if b < more {
			return then(x, r[i+1:])
		}
	}
	return api.ErrShort
}

// count hands on the number that the row begins with, if it is at most so much.
func (r row) count(most int, then func(n int, behind row) api.Errno) api.Errno {
	return r.number(func(x uint64, behind row) api.Errno {
		if most < 0 || x > uint64(most) {
			return api.ErrLimit
		}
		return then(int(x), behind)
	})
}

// first hands on the first n bytes of the row.
func (r row) first(n int, then func(b, behind row) api.Errno) api.Errno {
	switch {
	case n < 0:
		return api.ErrArg
	case n > len(r):
		return api.ErrShort
	}
	return then(r[:n], r[n:])
}

// fixed hands on the fixed number of n bytes that the row begins with.
func (r row) fixed(n int, then func(x uint64, behind row) api.Errno) api.Errno {
	if n < 1 || n > fixedBytes {
		return api.ErrArg
	}
	return r.first(n, func(b, behind row) api.Errno {
		var x uint64
		for i, y := range b {
			x |= uint64(y) << (byteBits * i)
		}
		return then(x, behind)
	})
}

// text hands on the bytes of the text that the row begins with, if they are at most so many.
func (r row) text(most int, then func(s, behind row) api.Errno) api.Errno {
	return r.count(most, func(n int, behind row) api.Errno {
		return behind.first(n, then)
	})
}
