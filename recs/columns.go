package recs

import (
	"slices"

	"firkin/api"
	"firkin/nums"
)

// timeBytes tells the column of the log's times.
func timeBytes(l []api.Record) []byte {
	var out []byte
	ahead := uint64(0)
	for _, r := range l {
		out = append(out, nums.Num(nums.Zig(r.Time-ahead))...)
		ahead = r.Time
	}
	return out
}

// levelBytes tells the column of the log's levels.
func levelBytes(l []api.Record) []byte {
	var out []byte
	for len(l) > 0 {
		n := alike(l)
		out = append(out, l[0].Level)
		out = append(out, nums.Num(uint64(n))...)
		l = l[n:]
	}
	return out
}

// alike tells how many records the log begins with that have the level of the first one.
func alike(l []api.Record) int {
	n := slices.IndexFunc(l, func(r api.Record) bool { return r.Level != l[0].Level })
	if n < 0 {
		return len(l)
	}
	return n
}
