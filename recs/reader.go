package recs

import (
	"slices"

	"firkin/api"
	"firkin/nums"
)

const (
	numberBytes = 10 // bytes of a number at most

	// What a record may take of columns at most: its time, and a row of levels. A cursor copies its bytes, and far more may stand behind columns, so it is handed no more than that.
	columnsBytes = numberBytes + 1 + numberBytes
)

// reader takes records and columns of bytes; its cursor keeps the first error, and takes nothing any more behind it.
type reader struct {
	*nums.Cursor
}

// readerOf makes a reader at the first of the bytes.
func readerOf(b []byte) reader {
	return reader{Cursor: nums.New(b)}
}

// records takes all records that there are.
func (r reader) records(whole bool) []api.Record {
	var l []api.Record
	for r.Left() > 0 && r.Err() == api.OK {
		l = append(l, r.record(whole))
	}
	return l
}

// record takes a record.
func (r reader) record(whole bool) api.Record {
	var told api.Record
	if whole {
		told.Time = r.Num()
		told.Level = r.Byte()
	}
	told.Source = r.Text(api.MaxField)
	told.Text = r.Text(api.MaxField)
	return told
}

// times takes the times of n records.
func (r reader) times(n int) []uint64 {
	var told []uint64
	ahead := uint64(0)
	for range n {
		ahead += nums.Zag(r.Num())
		told = append(told, ahead)
	}
	return told
}

// levels takes the levels of n records.
func (r reader) levels(n int) []uint8 {
	var told []uint8
	for len(told) < n && r.Err() == api.OK {
		level := r.Byte()
		many := r.Int(n - len(told))
		if many == 0 || isLast(told, level) {
			r.Fail(api.ErrForm)
		}
		told = append(told, slices.Repeat([]uint8{level}, many)...)
	}
	return told
}

// isLast tells whether the level is the last one of these.
func isLast(levels []uint8, level uint8) bool {
	return len(levels) > 0 && levels[len(levels)-1] == level
}
