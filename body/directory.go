package body

import (
	"slices"

	"firkin/api"
	"firkin/crc"
	"firkin/nums"
)

const longBytes = 4 // of how long the directory's chunk is

// directory says what a body is put together of.
type directory struct {
	ends  []int // of each block how many records there are up to its end
	longs []int // how many bytes each part ahead of the directory has: the frames, the columns' chunk, the index's
}

// directoryOf tells the directory of blocks of so many records, and of all parts ahead of it.
func directoryOf(counts []int, parts [][]byte) directory {
	var d directory
	for _, n := range counts {
		d.add(n)
	}
	for _, part := range parts {
		d.longs = append(d.longs, len(part))
	}
	return d
}

// add lays a block of so many records behind the others.
func (d *directory) add(records int) {
	d.ends = append(d.ends, d.records()+records)
}

// records tells how many records there are.
func (d *directory) records() int { return d.first(len(d.ends)) }

// first tells the number of a block's first record; behind the last block it would be how many records there are.
func (d *directory) first(k int) int {
	if k == 0 {
		return 0
	}
	return d.ends[k-1]
}

// has tells whether there is this block.
func (d *directory) has(k int) bool { return k >= 0 && k < len(d.ends) }

// count tells how many records a block has.
func (d *directory) count(k int) int { return d.ends[k] - d.first(k) }

// counts tells how many records each block has.
func (d *directory) counts() []int {
	counts := make([]int, len(d.ends))
	for k := range counts {
		counts[k] = d.count(k)
	}
	return counts
}

// blockOf tells the block of a record: the first one whose end is behind it.
func (d *directory) blockOf(i int) (int, bool) {
	if i < 0 || i >= d.records() {
		return 0, false
	}
	k, _ := slices.BinarySearch(d.ends, i+1)
	return k, true
}

// bytes tells the directory's bytes.
func (d *directory) bytes() []byte {
	b := nums.All(numOf(d.records()), numOf(len(d.ends)))
	for k, n := range d.counts() {
		b = append(b, nums.All(numOf(n), numOf(d.longs[k]))...)
	}
	for _, long := range d.longs[len(d.ends):] {
		b = append(b, numOf(long)...)
	}
	return b
}

// readDirectory tells the directory whose chunk this is.
func readDirectory(chunk []byte) (directory, api.Errno) {
	b, e := crc.Cut(chunk)
	if e != api.OK {
		return directory{}, e
	}
	var d directory
	c := nums.New(b)
	records := c.Int(api.MaxRecords)
	for range c.Int(records) {
		d.add(c.Int(records))
		d.longs = append(d.longs, c.Int(api.MaxBody))
	}
	d.longs = append(d.longs, c.Int(api.MaxBody), c.Int(api.MaxBody))
	if e := c.End(); e != api.OK {
		return directory{}, e
	}
	if d.records() != records || slices.Contains(d.counts(), 0) {
		return directory{}, api.ErrForm
	}
	return d, api.OK
}

// cut tells the parts of the bytes ahead of the directory, which must be just as long: the frames, the columns' chunk, the index's.
// They are cut off one by one, since together they may say more bytes than an int has room for.
func (d *directory) cut(ahead []byte) (frames [][]byte, columns, index []byte, e api.Errno) {
	var parts [][]byte
	for _, long := range d.longs {
		if long > len(ahead) {
			return nil, nil, nil, api.ErrForm
		}
		parts = append(parts, ahead[:long])
		ahead = ahead[long:]
	}
	if len(ahead) > 0 {
		return nil, nil, nil, api.ErrForm
	}
	n := len(d.ends)
	return parts[:n], parts[n], parts[n+1], api.OK
}

// endOf tells what a body ends with: the directory's chunk, and how long that is.
func endOf(d directory) ([]byte, api.Errno) {
	chunk := crc.Put(d.bytes())
	long, e := nums.Fixed(uint64(len(chunk)), longBytes)
	if e != api.OK {
		return nil, e
	}
	return nums.All(chunk, long), api.OK
}

// cutEnd tells the bytes ahead of the directory's chunk, and this one.
func cutEnd(b []byte) (ahead, chunk []byte, e api.Errno) {
	end := len(b) - longBytes
	if end < 0 {
		return nil, nil, api.ErrShort
	}
	long := nums.New(b[end:]).Fixed(longBytes)
	if long > uint64(end) {
		return nil, nil, api.ErrShort
	}
	from := end - int(long)
	return b[:from], b[from:end], api.OK
}

// numOf tells the bytes of a number that isn't below 0.
func numOf(x int) []byte { return nums.Num(uint64(x)) }
