package body

import (
	"firkin/api"
	"firkin/crc"
	"firkin/recs"
)

// columns are the times and levels of all records.
type columns struct {
	times  []uint64
	levels []uint8
}

// readColumns tells the columns of so many records whose chunk this is.
func readColumns(records int, chunk []byte) (columns, api.Errno) {
	b, e := crc.Cut(chunk)
	if e != api.OK {
		return columns{}, e
	}
	times, levels, long, e := recs.ReadColumns(records, b)
	switch {
	case e != api.OK:
		return columns{}, e
	case long < len(b):
		return columns{}, api.ErrForm
	}
	return columns{times: times, levels: levels}, api.OK
}

// date gives records, of which the first one has this number, their times and levels.
func (c *columns) date(first int, l []api.Record) {
	for i := range l {
		l[i].Time = c.times[first+i]
		l[i].Level = c.levels[first+i]
	}
}
