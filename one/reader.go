package one

import (
	"firkin/api"
	"firkin/block"
	"firkin/nums"
	"firkin/opts"
	"firkin/recs"
)

const markBytes = len(api.Magic) + 1

// reader takes what stands ahead of an archive's sum; its cursor keeps the first error, and takes nothing any more behind it.
type reader struct {
	*nums.Cursor
	b []byte
}

// readerOf makes a reader at the first of the bytes.
func readerOf(b []byte) *reader {
	return &reader{Cursor: nums.New(b), b: b}
}

// head takes the head, its mark unseen.
func (r *reader) head() head {
	var h head
	r.Take(markBytes)
	h.opts.Block = r.Int(api.MaxRaw)
	h.opts.Plain = r.plain()
	h.records = r.Int(api.MaxRecords)
	h.blocks = r.Int(h.records)
	r.Fail(opts.Check(version, h.opts))
	return h
}

// plain takes Plain.
func (r *reader) plain() bool {
	b := r.Byte()
	if b > isPlain {
		r.Fail(api.ErrForm)
	}
	return b == isPlain
}

// log takes the log, which must be all that is left.
// Of more records than the head says none are kept: blocks of few bytes may have far more of them than there is room for.
func (r *reader) log(h head) []api.Record {
	var l []api.Record
	many := 0
	for k := 0; k < h.blocks && r.Err() == api.OK; k++ {
		some := r.block()
		many += len(some)
		if many <= h.records {
			l = append(l, some...)
		}
	}
	r.End()
	if many != h.records {
		r.Fail(api.ErrForm)
	}
	r.Fail(recs.Check(l...))
	return l
}

// block takes the records of a block, of which there must be one.
func (r *reader) block() []api.Record {
	raw, long, e := block.Read(r.b[r.At():])
	r.Fail(e)
	r.Take(long)
	l, e := recs.Read(true, raw)
	r.Fail(e)
	if len(l) == 0 {
		r.Fail(api.ErrForm)
	}
	return l
}
