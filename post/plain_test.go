package post

import (
	"bytes"
	"math"
	"math/rand"
	"slices"
	"strconv"
	"strings"
	"testing"

	"firkin/api"
)

// chance tells numbers that look like chance, the same in each run.
func chance(seed int64) *rand.Rand { return rand.New(rand.NewSource(seed)) }

// plainWords tells the words of a text, as chapter 15 tells them.
func plainWords(s string) []string {
	between := func(c rune) bool {
		return !strings.ContainsRune("abcdefghijklmnopqrstuvwxyzABCDEFGHIJKLMNOPQRSTUVWXYZ0123456789", c)
	}
	var l []string
	for _, word := range strings.FieldsFunc(s, between) {
		l = append(l, strings.ToLower(word[:min(len(word), 24)]))
	}
	return l
}

// plainHas tells whether a term is one of a record's, as chapter 15 tells it.
func plainHas(r api.Record, term string) bool {
	if word, ok := strings.CutPrefix(term, "@"); ok {
		return slices.Contains(plainWords(r.Source), word)
	}
	return slices.Contains(plainWords(r.Text), term)
}

// plainBuild tells the index of a log, as the chapter's words tell it: each term is asked of each record.
func plainBuild(l []api.Record) api.Index {
	var x api.Index
	for _, r := range l {
		x.Terms = append(x.Terms, plainWords(r.Text)...)
		for _, word := range plainWords(r.Source) {
			x.Terms = append(x.Terms, "@"+word)
		}
	}
	slices.Sort(x.Terms)
	x.Terms = slices.Compact(x.Terms)
	for _, term := range x.Terms {
		var list []int
		for i, r := range l {
			if plainHas(r, term) {
				list = append(list, i)
			}
		}
		x.Lists = append(x.Lists, list)
	}
	return x
}

// plainSame tells whether two indexes are the same, as the chapter's words tell it.
func plainSame(x, y api.Index) bool {
	if len(x.Terms) != len(y.Terms) || len(x.Lists) != len(y.Lists) {
		return false
	}
	for i := range x.Terms {
		if x.Terms[i] != y.Terms[i] {
			return false
		}
	}
	for i := range x.Lists {
		if len(x.Lists[i]) != len(y.Lists[i]) {
			return false
		}
		for k := range x.Lists[i] {
			if x.Lists[i][k] != y.Lists[i][k] {
				return false
			}
		}
	}
	return true
}

// plainMay tells whether an index may be for a bound, as the chapter's words tell it.
func plainMay(bound int, x api.Index) bool {
	if bound < 0 || bound > 20000 || len(x.Terms) > 1048576 || len(x.Lists) != len(x.Terms) {
		return false
	}
	for i, term := range x.Terms {
		if len(term) < 1 || len(term) > 25 || i > 0 && x.Terms[i-1] >= term {
			return false
		}
	}
	for _, list := range x.Lists {
		if len(list) == 0 {
			return false
		}
		for i, id := range list {
			if id < 0 || id >= bound || i > 0 && list[i-1] >= id {
				return false
			}
		}
	}
	return true
}

// plainNum tells a number's bytes, as chapter 3 tells them.
func plainNum(x int) []byte {
	var b []byte
	for x > 127 {
		b = append(b, byte(x%128)+128)
		x /= 128
	}
	return append(b, byte(x))
}

// plainText tells a text's bytes, as chapter 3 tells them.
func plainText(s string) []byte { return append(plainNum(len(s)), s...) }

// alike tells how many bytes at the beginning of a text are those of another one.
func alike(a, b string) int {
	for n := len(a); ; n-- {
		if strings.HasPrefix(b, a[:n]) {
			return n
		}
	}
}

// plainBook tells the dictionary of texts, as chapter 16 tells it.
func plainBook(size int, texts []string) []byte {
	b := plainNum(len(texts))
	var buckets []byte
	for bucket := range slices.Chunk(texts, size) {
		of := plainText(bucket[0])
		for i, text := range bucket[1:] {
			n := alike(bucket[i], text)
			of = append(append(of, plainNum(n)...), plainText(text[n:])...)
		}
		b = append(b, plainNum(len(of))...)
		buckets = append(buckets, of...)
	}
	return append(b, buckets...)
}

// digits tells a number, as n bits, as text.
func digits(x, n int) string {
	s := strings.Repeat("0", 20) + strconv.FormatInt(int64(x), 2)
	return s[len(s)-n:]
}

// width tells how many low bits a row of n numbers has, as chapter 13 tells it.
func width(bound, n int) int {
	for w := range 64 {
		if two := math.Pow(2, float64(w)); two <= float64(bound/n) && 2*two > float64(bound/n) {
			return w
		}
	}
	panic("a row isn't of more numbers than its bound")
}

// bytesOf tells bits, as text, as bytes; bits 0 fill the last one up.
func bytesOf(s string) []byte {
	b := make([]byte, (len(s)+7)/8)
	for i := range s {
		b[i/8] |= (s[i] - '0') << (7 - i%8)
	}
	return b
}

// plainRow tells a row as bytes, as chapter 13 tells it.
func plainRow(bound int, ids []int) []byte {
	if len(ids) == 0 {
		return []byte{0}
	}
	w := width(bound, len(ids))
	var low, unary strings.Builder
	ahead := 0
	for _, id := range ids {
		low.WriteString(digits(id, w))
		unary.WriteString(strings.Repeat("0", id>>w-ahead) + "1")
		ahead = id >> w
	}
	return append(plainNum(len(ids)), bytesOf(low.String()+unary.String())...)
}

// plainBytes tells an index as bytes, as the chapter's words tell it.
func plainBytes(size, bound int, x api.Index) []byte {
	b := plainBook(size, x.Terms)
	for _, list := range x.Lists {
		b = append(b, plainRow(bound, list)...)
	}
	return b
}

// plain takes an index of bytes, as the chapters' words tell it; an error stays.
type plain struct {
	b []byte
	e api.Errno
}

// wrong gives an error, if there is none so far.
func (p *plain) wrong(is bool, e api.Errno) {
	if is && p.e == api.OK {
		p.e = e
	}
}

// number takes a number of at most so much.
func (p *plain) number(most int) int {
	for i := 0; i < len(p.b) && p.e == api.OK; i++ {
		p.wrong(i == 9 && p.b[i] != 1 || i > 0 && p.b[i] == 0, api.ErrForm)
		if p.b[i] >= 128 {
			continue
		}
		x := 0.0 // far above each most, a float is as good as a number
		for k := i; k >= 0; k-- {
			x = 128*x + float64(p.b[k]%128)
		}
		p.wrong(x > float64(most), api.ErrLimit)
		if p.e == api.OK {
			p.b = p.b[i+1:]
			return int(x)
		}
	}
	p.wrong(true, api.ErrShort)
	return 0
}

// take takes n bytes.
func (p *plain) take(n int) []byte {
	p.wrong(n > len(p.b), api.ErrShort)
	if p.e != api.OK {
		return nil
	}
	b := p.b[:n]
	p.b = p.b[n:]
	return b
}

// book takes the texts of a dictionary, as chapter 16 tells it.
func (p *plain) book(size int) []string {
	n := p.number(1 << 20)
	var longs []int
	for i := 0; i < n && p.e == api.OK; i += size {
		longs = append(longs, p.number(2000))
	}
	var texts []string
	for _, long := range longs {
		in := &plain{b: p.take(long), e: p.e}
		for i := 0; i < size && len(texts) < n && in.e == api.OK; i++ {
			ahead, have := "", 0
			if len(texts) > 0 {
				ahead = texts[len(texts)-1]
			}
			if i > 0 {
				have = in.number(len(ahead))
			}
			behind := string(in.take(in.number(25)))
			text := ahead[:have] + behind
			in.wrong(behind == "" || len(text) > 25 || text <= ahead || i > 0 && alike(ahead, text) > have, api.ErrForm)
			texts = append(texts, text)
		}
		in.wrong(len(in.b) > 0, api.ErrForm)
		p.e = in.e
	}
	return texts
}

// row takes a row of numbers, as chapter 13 tells it.
func (p *plain) row(bound int) []int {
	n := p.number(bound)
	if n == 0 || p.e != api.OK {
		return nil
	}
	var all strings.Builder
	for _, c := range p.b {
		all.WriteString(digits(int(c), 8))
	}
	w, s := width(bound, n), all.String()
	p.wrong(len(s) < n*w, api.ErrShort)
	if p.e != api.OK {
		return nil
	}
	unary := s[n*w:]
	var ids []int
	high, ahead := 0, -1
	for i := 0; i < n && p.e == api.OK; i++ {
		zeros := strings.Index(unary, "1")
		p.wrong(zeros < 0, api.ErrShort)
		unary = unary[zeros+1:]
		high += zeros
		low, _ := strconv.ParseInt("0"+s[i*w:(i+1)*w], 2, 64)
		id := high<<w + int(low)
		p.wrong(id <= ahead, api.ErrForm)
		p.wrong(id >= bound, api.ErrRange)
		ids, ahead = append(ids, id), id
	}
	p.wrong(strings.Contains(unary[:len(unary)%8], "1"), api.ErrForm)
	p.take(len(p.b) - len(unary)/8)
	return ids
}

// plainRead tells the index whose bytes these are, as the chapter's words tell it.
func plainRead(size, bound int, b []byte) (api.Index, api.Errno) {
	if size < 1 || size > 64 || bound < 0 || bound > 20000 {
		return api.Index{}, api.ErrArg
	}
	p := &plain{b: b}
	x := api.Index{Terms: p.book(size)}
	for range x.Terms {
		list := p.row(bound)
		p.wrong(len(list) == 0, api.ErrForm)
		x.Lists = append(x.Lists, list)
	}
	p.wrong(len(p.b) > 0, api.ErrForm)
	if p.e != api.OK {
		return api.Index{}, p.e
	}
	return x, api.OK
}

// isEmpty tells whether an index is the empty one.
func isEmpty(x api.Index) bool { return len(x.Terms)+len(x.Lists) == 0 }

// few tells the first bytes of a row, for messages.
func few(b []byte) []byte { return b[:min(len(b), 100)] }

// checkRead holds Read against the plain one, and tells the error; what is read may be, and is what is written.
func checkRead(t testing.TB, size, bound int, b []byte) api.Errno {
	t.Helper()
	x, e := Read(size, bound, b)
	want, wantE := plainRead(size, bound, b)
	if e != wantE || !plainSame(x, want) || e != api.OK && !isEmpty(x) {
		t.Fatalf("buckets of %d, below %d, %q: %v, error %d, not %v, error %d", size, bound, few(b), x, e, want, wantE)
	}
	if e != api.OK {
		return e
	}
	if !May(bound, x) {
		t.Fatalf("below %d, %q: an index that may not be is read", bound, few(b))
	}
	if again, e := Bytes(size, bound, x); e != api.OK || !bytes.Equal(again, b) {
		t.Fatalf("buckets of %d, below %d, %q is read, but %q written, error %d", size, bound, few(b), few(again), e)
	}
	return api.OK
}

// someText tells a text of at most n words, few of which are unlike, with bytes between that are no letters.
func someText(r *rand.Rand, n int) string {
	var s strings.Builder
	for range r.Intn(n + 1) {
		for range 1 + r.Intn([]int{1, 2, 30}[r.Intn(3)]) {
			s.WriteByte("aabBzZ09"[r.Intn(8)])
		}
		s.WriteString([]string{" ", "-", "@", "\x00", "\xff", "ä", ", "}[r.Intn(7)])
	}
	return s.String()
}

// someLog tells a log of at most n records, of at most so many words each.
func someLog(r *rand.Rand, n, most int) []api.Record {
	var l []api.Record
	for range r.Intn(n + 1) {
		l = append(l, api.Record{Time: r.Uint64(), Level: uint8(r.Intn(256)), Source: someText(r, 2), Text: someText(r, most)})
	}
	return l
}

// someIndex tells an index that may be for a bound, of at most n terms of any bytes; below 0 there is none but the empty one.
func someIndex(r *rand.Rand, bound, n int) api.Index {
	var x api.Index
	if bound == 0 {
		return x
	}
	for range r.Intn(n + 1) {
		b := make([]byte, 1+r.Intn([]int{2, 4, 25}[r.Intn(3)]))
		for i := range b {
			b[i] = []byte{'a', 'b', 'c', '@', byte(r.Intn(256))}[r.Intn(5)]
		}
		x.Terms = append(x.Terms, string(b))
	}
	slices.Sort(x.Terms)
	x.Terms = slices.Compact(x.Terms)
	for range x.Terms {
		x.Lists = append(x.Lists, someRow(r, bound, 1+r.Intn(min(bound, 9))))
	}
	return x
}

// someRow tells n numbers below a bound, rising.
func someRow(r *rand.Rand, bound, n int) []int {
	ids := r.Perm(bound)[:n]
	slices.Sort(ids)
	return ids
}

// span tells the numbers from one on, below a bound, by steps.
func span(from, bound, step int) []int {
	var ids []int
	for x := from; x < bound; x += step {
		ids = append(ids, x)
	}
	return ids
}

// numbered tells n words of four letters, rising.
func numbered(n int) []string {
	l := make([]string, n)
	for i := range l {
		s := strconv.FormatInt(int64(i), 32)
		l[i] = strings.Repeat("0", 4-len(s)) + s
	}
	return l
}

// copyOf tells an index of memory of its own.
func copyOf(x api.Index) api.Index {
	y := api.Index{Terms: slices.Clone(x.Terms)}
	for _, list := range x.Lists {
		y.Lists = append(y.Lists, slices.Clone(list))
	}
	return y
}

// sizes are sizes of buckets, at the edges and between them.
var sizes = []int{1, 2, 3, 16, 63, 64}

// wrongSizes are sizes that may not be.
var wrongSizes = []int{math.MinInt, -1 << 32, -64, -1, 0, 65, 66, 128, 256, 257, 1<<32 + 1, math.MaxInt}

// wrongBounds are bounds that may not be.
var wrongBounds = []int{math.MinInt, -20000, -2, -1, 20001, 20002, 1 << 15, 1 << 32, 1<<32 + 1, math.MaxInt}

// edgeIndexes tells indexes at the edges, each with a bound that it may be for: none, one, first and last terms, first and last numbers, all numbers, as many terms as some buckets have, one fewer and one more.
func edgeIndexes() map[int][]api.Index {
	x24 := strings.Repeat("x", 24)
	one := func(list ...int) api.Index { return api.Index{Terms: []string{"a"}, Lists: [][]int{list}} }
	out := map[int][]api.Index{
		0:     {{}},
		1:     {{}, one(0), {Terms: []string{"\x00", "\xff"}, Lists: [][]int{{0}, {0}}}},
		2:     {one(0), one(1), one(0, 1), {Terms: []string{"@db", "disk", "full"}, Lists: [][]int{{0}, {0}, {0, 1}}}},
		128:   {one(span(0, 128, 1)...), one(span(0, 127, 1)...), {Terms: []string{x24, x24 + "\x00", x24 + "\xff"}, Lists: [][]int{{127}, {0}, span(1, 128, 1)}}},
		20000: {{}, one(0), one(19999), one(0, 19999), one(span(0, 20000, 1)...), one(span(1, 20000, 2)...), {Terms: []string{"a", "b"}, Lists: [][]int{span(0, 20000, 1), span(0, 20000, 7)}}},
	}
	for _, n := range []int{1, 2, 3, 4, 15, 16, 17, 62, 63, 64, 65, 127, 128, 129, 1000} {
		x := api.Index{Terms: numbered(n)}
		for i := range n {
			x.Lists = append(x.Lists, []int{i})
		}
		out[n] = append(out[n], x)
	}
	return out
}
