package recs

import (
	"bytes"
	"math"
	"math/rand"
	"slices"
	"strings"
	"testing"

	"firkin/api"
)

// chance tells numbers that look like chance, the same in each run.
func chance(seed int64) *rand.Rand { return rand.New(rand.NewSource(seed)) }

// plainNum tells a number's bytes, as chapter 3 tells them.
func plainNum(x uint64) []byte {
	var b []byte
	for x > 127 {
		b = append(b, byte(x%128)+128)
		x /= 128
	}
	return append(b, byte(x))
}

// plainText tells a text's bytes, as chapter 3 tells them.
func plainText(s string) []byte { return append(plainNum(uint64(len(s))), s...) }

// plainSigned tells a signed number's bytes, as chapter 3 tells them.
func plainSigned(d int64) []byte {
	if d >= 0 {
		return plainNum(2 * uint64(d))
	}
	return plainNum(2*uint64(-(d+1)) + 1)
}

// plainCheck tells whether a log may be, as the chapter's words tell it.
func plainCheck(l []api.Record) api.Errno {
	for _, r := range l {
		if len(r.Source) > 4000 || len(r.Text) > 4000 {
			return api.ErrLimit
		}
	}
	if len(l) > 20000 || plainWeight(l) > 1048576 {
		return api.ErrLimit
	}
	return api.OK
}

// plainWeight tells a log's weight, as the chapter's words tell it.
func plainWeight(l []api.Record) int {
	weight := 16 * len(l)
	for _, r := range l {
		weight += len(r.Source + r.Text)
	}
	return weight
}

// plainBytes tells the records' bytes, as the chapter's words tell them.
func plainBytes(whole bool, l []api.Record) []byte {
	var rows [][]byte
	for _, r := range l {
		if whole {
			rows = append(rows, plainNum(r.Time), []byte{r.Level})
		}
		rows = append(rows, plainText(r.Source), plainText(r.Text))
	}
	return bytes.Join(rows, nil)
}

// plainGroups tells how many records each group has, as the chapter's words tell it.
func plainGroups(size int, whole bool, l []api.Record) []int {
	if size < 1 {
		size = 1
	}
	var groups [][]api.Record
	for _, r := range l {
		last := len(groups) - 1
		if last >= 0 && len(plainBytes(whole, append(slices.Clone(groups[last]), r))) <= size {
			groups[last] = append(groups[last], r)
			continue
		}
		groups = append(groups, []api.Record{r})
	}
	var out []int
	for _, g := range groups {
		out = append(out, len(g))
	}
	return out
}

// plainColumns tells the columns, as the chapter's words tell them.
func plainColumns(l []api.Record) []byte {
	var b []byte
	for i, r := range l {
		d := r.Time
		if i > 0 {
			d -= l[i-1].Time
		}
		b = append(b, plainSigned(int64(d))...)
	}
	for i, r := range l {
		if i > 0 && l[i-1].Level == r.Level {
			continue
		}
		n := 1
		for i+n < len(l) && l[i+n].Level == r.Level {
			n++
		}
		b = append(b, r.Level)
		b = append(b, plainNum(uint64(n))...)
	}
	return b
}

// plain takes numbers, bytes and texts, as the chapters' words tell it; an error stays.
type plain struct {
	b []byte
	e api.Errno
}

// number takes a number of at most so much.
func (p *plain) number(most uint64) uint64 {
	var x uint64
	for i := range 10 {
		if p.e != api.OK {
			return 0
		}
		switch {
		case i == len(p.b):
			p.e = api.ErrShort
		case i == 9 && p.b[i] != 1, i > 0 && p.b[i] == 0:
			p.e = api.ErrForm
		default:
			x += uint64(p.b[i]%128) * uint64(math.Pow(128, float64(i)))
			if p.b[i] >= 128 {
				continue
			}
			if x <= most {
				p.b = p.b[i+1:]
				return x
			}
			p.e = api.ErrLimit
		}
	}
	return 0
}

// take takes n bytes.
func (p *plain) take(n int) []byte {
	if p.e == api.OK && n > len(p.b) {
		p.e = api.ErrShort
	}
	if p.e != api.OK {
		return make([]byte, n)
	}
	b := p.b[:n]
	p.b = p.b[n:]
	return b
}

// text takes a text of at most 4000 bytes.
func (p *plain) text() string { return string(p.take(int(p.number(4000)))) }

// wrong gives the error of a form, if there is none so far.
func (p *plain) wrong(is bool) {
	if is && p.e == api.OK {
		p.e = api.ErrForm
	}
}

// plainRead tells the records whose bytes these are, as the chapter's words tell them.
func plainRead(whole bool, b []byte) ([]api.Record, api.Errno) {
	p := &plain{b: b}
	var l []api.Record
	for len(p.b) > 0 {
		var r api.Record
		if whole {
			r.Time = p.number(math.MaxUint64)
			r.Level = p.take(1)[0]
		}
		r.Source = p.text()
		r.Text = p.text()
		if p.e != api.OK {
			return nil, p.e
		}
		l = append(l, r)
	}
	return l, api.OK
}

// plainReadColumns tells the times and levels of n records, and how many bytes they take, as the chapter's words tell it.
func plainReadColumns(n int, b []byte) ([]uint64, []uint8, int, api.Errno) {
	if n < 0 || n > 20000 {
		return nil, nil, 0, api.ErrArg
	}
	p := &plain{b: b}
	var times []uint64
	var levels []uint8
	ahead := uint64(0)
	for range n {
		z := p.number(math.MaxUint64)
		if z%2 == 0 {
			ahead += z / 2
		} else {
			ahead -= z/2 + 1
		}
		times = append(times, ahead)
	}
	for len(levels) < n && p.e == api.OK {
		level := p.take(1)[0]
		many := p.number(uint64(n - len(levels)))
		p.wrong(many == 0)
		p.wrong(len(levels) > 0 && levels[len(levels)-1] == level)
		levels = append(levels, bytes.Repeat([]byte{level}, int(many))...)
	}
	if p.e != api.OK {
		return nil, nil, 0, p.e
	}
	return times, levels, len(b) - len(p.b), api.OK
}

// short tells bytes, or the first ones of many.
func short[T any](l []T) []T { return l[:min(len(l), 40)] }

// checkRead holds Read against the plain one, and tells the error; what is read is what is written.
func checkRead(t testing.TB, whole bool, b []byte) api.Errno {
	t.Helper()
	l, e := Read(whole, b)
	want, wantE := plainRead(whole, b)
	if e != wantE || !slices.Equal(l, want) {
		t.Fatalf("whole %v, %q: %v, error %d, not %v, error %d", whole, short(b), short(l), e, short(want), wantE)
	}
	if e != api.OK {
		return e
	}
	if again := Bytes(whole, l...); !bytes.Equal(again, b) {
		t.Fatalf("whole %v, %q is read, but %q written", whole, short(b), short(again))
	}
	return api.OK
}

// checkReadColumns holds ReadColumns against the plain one, and tells the error; what is read is what is written.
func checkReadColumns(t testing.TB, n int, b []byte) api.Errno {
	t.Helper()
	times, levels, long, e := ReadColumns(n, b)
	wantTimes, wantLevels, wantLong, want := plainReadColumns(n, b)
	if e != want || long != wantLong || !slices.Equal(times, wantTimes) || !slices.Equal(levels, wantLevels) {
		t.Fatalf("%d records, %q: %v, %v, %d, error %d, not %v, %v, %d, error %d", n, short(b), short(times), short(levels), long, e, short(wantTimes), short(wantLevels), wantLong, want)
	}
	if e != api.OK {
		return e
	}
	l := make([]api.Record, n)
	for i := range l {
		l[i].Time, l[i].Level = times[i], levels[i]
	}
	if again := Columns(l...); !bytes.Equal(again, b[:long]) {
		t.Fatalf("%q is read, but %q written", short(b[:long]), short(again))
	}
	return api.OK
}

// each hands on all rows of n of these bytes, behind the ones ahead.
func each(n int, of string, ahead []byte, hand func(b []byte)) {
	if n == 0 {
		hand(ahead)
		return
	}
	for i := range len(of) {
		each(n-1, of, append(ahead, of[i]), hand)
	}
}

// edgeTimes are times about which a number's bytes, signed ones and 64 bits turn.
var edgeTimes = []uint64{0, 1, 2, 63, 64, 65, 127, 128, 300, 8191, 8192, 16383, 16384, 1<<31 - 1, 1 << 31, 1<<32 - 1, 1 << 32, 1<<62 - 1, 1 << 62, 1<<63 - 1, 1 << 63, 1<<63 + 1, math.MaxUint64 - 1, math.MaxUint64}

// edgeLongs are counts of bytes about which a number's bytes, or the limit, are passed.
var edgeLongs = []int{0, 1, 2, 126, 127, 128, 129, 3999, 4000}

// someRecord tells a record of chance; many levels are alike.
func someRecord(r *rand.Rand, long int) api.Record {
	text := func() string {
		b := make([]byte, r.Intn(long+1))
		r.Read(b)
		return string(b)
	}
	time := r.Uint64() >> r.Intn(64)
	if r.Intn(4) == 0 {
		time = edgeTimes[r.Intn(len(edgeTimes))]
	}
	level := uint8(r.Intn(2))
	if r.Intn(4) == 0 {
		level = uint8(r.Intn(256))
	}
	return api.Record{Time: time, Level: level, Source: text(), Text: text()}
}

// someLog tells a log of chance, of at most n records.
func someLog(r *rand.Rand, n, long int) []api.Record {
	var l []api.Record
	for range r.Intn(n + 1) {
		l = append(l, someRecord(r, long))
	}
	return l
}

// ofLevels tells a log of such levels.
func ofLevels(levels ...uint8) []api.Record {
	var l []api.Record
	for _, level := range levels {
		l = append(l, api.Record{Level: level})
	}
	return l
}

// ofTimes tells a log of such times.
func ofTimes(times ...uint64) []api.Record {
	var l []api.Record
	for _, time := range times {
		l = append(l, api.Record{Time: time})
	}
	return l
}

// same tells n records that are alike.
func same(n int, r api.Record) []api.Record { return slices.Repeat([]api.Record{r}, n) }

// x tells a text of n bytes.
func x(n int) string { return strings.Repeat("x", n) }

// edgeLogs tells logs at the edges: none, all levels, all edges of times and of lengths, long rows of one level, as many as may be, and one more.
func edgeLogs() [][]api.Record {
	out := [][]api.Record{nil, {{}}, {{Time: 300, Level: 2, Source: "db", Text: "go"}}, {{Source: "\x00\xff", Text: "\x80é"}, {Level: 255}}, ofTimes(edgeTimes...)}
	for _, a := range edgeTimes {
		for _, b := range edgeTimes {
			out = append(out, ofTimes(a, b))
		}
	}
	for _, a := range edgeLongs {
		for _, b := range edgeLongs {
			out = append(out, []api.Record{{Source: x(a), Text: x(b)}})
		}
	}
	var all []uint8
	for level := range 256 {
		all = append(all, uint8(level))
	}
	out = append(out, ofLevels(all...))
	for _, n := range []int{1, 2, 127, 128, 16383, 16384, 19999, 20000, 20001} {
		out = append(out, same(n, api.Record{Level: 7}), slices.Concat(ofLevels(1), same(n-1, api.Record{}), ofLevels(1)))
	}
	return out
}

// logs tells logs at the edges, and of chance.
func logs() [][]api.Record {
	out := edgeLogs()
	r := chance(1)
	for range 300 {
		out = append(out, someLog(r, 3, 3), someLog(r, 40, 10), someLog(r, 10, 300))
	}
	return out
}
