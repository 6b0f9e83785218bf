package three

import (
	"bytes"

	"firkin/api"
	"firkin/nums"
	"firkin/stripe"
)

// lay tells the archive of a head and its body.
func (h head) lay(made []byte) ([]byte, api.Errno) {
	laid, e := stripe.Lay(h.Data, h.Parity, h.Chunk, made)
	if e != api.OK {
		return nil, e
	}
	end, e := h.bytes()
	if e != api.OK {
		return nil, e
	}
	return nums.All(end, laid, end), api.OK
}

// read tells the head of an archive, its body, both mended, and how much was damaged: chunks, and one for the copies of the head.
func read(b []byte) (h head, made []byte, bad int, e api.Errno) {
	c, e := counting(b)
	if e != api.OK {
		return head{}, nil, 0, e
	}
	h, e = headOf(c)
	if e != api.OK {
		return head{}, nil, 0, e
	}
	first, laid, last := cut(b)
	made, chunks, e := stripe.Read(h.Data, h.Parity, h.Chunk, h.long, laid)
	if e != api.OK {
		return head{}, nil, 0, e
	}
	bad = len(chunks)
	// One of both is the head; another one may count, too, and is damage all the same.
	if !bytes.Equal(first, last) {
		bad++
	}
	return h, made, bad, api.OK
}

// counting tells the copy of the head that holds: the first one that counts.
func counting(b []byte) ([]byte, api.Errno) {
	// Copies don't share bytes.
	if len(b) < 2*headBytes {
		return nil, api.ErrShort
	}
	first, _, last := cut(b)
	switch {
	case counts(first):
		return first, api.OK
	case counts(last):
		return last, api.OK
	}
	return nil, api.ErrSum
}

// cut tells both copies of the head, and what stands between them, of bytes that have room for both.
func cut(b []byte) (first, laid, last []byte) {
	end := len(b) - headBytes
	return b[:headBytes], b[headBytes:end], b[end:]
}
