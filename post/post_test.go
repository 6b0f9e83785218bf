package post

import (
	"bytes"
	"slices"
	"strconv"
	"strings"
	"testing"

	"firkin/api"
)

// text tells a record of a text alone.
func text(s string) api.Record { return api.Record{Text: s} }

// wantIndex sees that the index of a log is this one.
func wantIndex(t *testing.T, want api.Index, l ...api.Record) {
	t.Helper()
	if x := Build(l...); !plainSame(x, want) {
		t.Errorf("%v: %v, not %v", l[:min(len(l), 10)], x, want)
	}
}

// P18.1

func TestBuildExample(t *testing.T) {
	wantIndex(t, api.Index{Terms: []string{"disk", "full"}, Lists: [][]int{{0}, {0, 1}}}, text("disk full"), text("full"))
}

func TestBuildByHand(t *testing.T) {
	x24 := strings.Repeat("x", 24)
	for _, x := range []struct {
		l    []api.Record
		want api.Index
	}{
		{nil, api.Index{}},
		{[]api.Record{{}}, api.Index{}},
		{[]api.Record{{Time: 5, Level: 1}, text(" -@."), {Source: "@"}}, api.Index{}},
		{[]api.Record{text("a")}, api.Index{Terms: []string{"a"}, Lists: [][]int{{0}}}},
		{[]api.Record{{}, {}, text("a"), {}}, api.Index{Terms: []string{"a"}, Lists: [][]int{{2}}}},
		{[]api.Record{{Source: "a"}}, api.Index{Terms: []string{"@a"}, Lists: [][]int{{0}}}},
		{[]api.Record{text("@a")}, api.Index{Terms: []string{"a"}, Lists: [][]int{{0}}}},
		{[]api.Record{{Source: "a", Text: "a"}}, api.Index{Terms: []string{"@a", "a"}, Lists: [][]int{{0}, {0}}}},
		{[]api.Record{{Source: "a"}, text("a")}, api.Index{Terms: []string{"@a", "a"}, Lists: [][]int{{0}, {1}}}},
		{[]api.Record{text("a a"), text("a"), text("A,a")}, api.Index{Terms: []string{"a"}, Lists: [][]int{{0, 1, 2}}}},
		{[]api.Record{text("b a"), text("c"), text("a")}, api.Index{Terms: []string{"a", "b", "c"}, Lists: [][]int{{0, 2}, {0}, {1}}}},
		{[]api.Record{text("z"), text("0"), {Source: "z"}, text("a"), text("9")}, api.Index{Terms: []string{"0", "9", "@z", "a", "z"}, Lists: [][]int{{1}, {4}, {2}, {3}, {0}}}},
		{[]api.Record{text("disks"), text("disk"), text("dis")}, api.Index{Terms: []string{"dis", "disk", "disks"}, Lists: [][]int{{2}, {1}, {0}}}},
		{[]api.Record{{Source: "Db1 web", Text: "Disk full, disk"}, {Source: "db1"}}, api.Index{Terms: []string{"@db1", "@web", "disk", "full"}, Lists: [][]int{{0, 1}, {0}, {0}, {0}}}},
		{[]api.Record{text(x24), text(x24 + "x"), text(x24 + "y z")}, api.Index{Terms: []string{x24, "z"}, Lists: [][]int{{0, 1, 2}, {2}}}},
		{[]api.Record{{Source: x24}, {Source: x24 + "y"}}, api.Index{Terms: []string{"@" + x24}, Lists: [][]int{{0, 1}}}},
		{[]api.Record{text("b"), text("B"), text("\xff"), text("b")}, api.Index{Terms: []string{"b"}, Lists: [][]int{{0, 1, 3}}}},
	} {
		wantIndex(t, x.want, x.l...)
	}
}

func TestBuildChance(t *testing.T) {
	r := chance(1)
	for range 1000 {
		l := someLog(r, 12, 8)
		wantIndex(t, plainBuild(l), l...)
	}
	for range 5 {
		l := someLog(r, 200, 12)
		wantIndex(t, plainBuild(l), l...)
	}
}

// TestBuildMany: as many records as may be, and more; each has its number as a word, and one that all have.
func TestBuildMany(t *testing.T) {
	for _, n := range []int{19999, 20000, 20001, 50000} {
		l := make([]api.Record, n)
		for i := range l {
			l[i] = text("all " + strconv.Itoa(i))
		}
		x := Build(l...)
		if len(x.Terms) != n+1 || len(x.Lists) != n+1 || !slices.IsSorted(x.Terms) {
			t.Fatalf("%d records: %d terms, %d lists", n, len(x.Terms), len(x.Lists))
		}
		for i, term := range x.Terms[:n] {
			if id, _ := strconv.Atoi(term); !slices.Equal(x.Lists[i], []int{id}) {
				t.Fatalf("%d records: %q has %d", n, term, x.Lists[i])
			}
		}
		if x.Terms[n] != "all" || !slices.Equal(x.Lists[n], span(0, n, 1)) {
			t.Fatalf("%d records: %q has %d numbers", n, x.Terms[n], len(x.Lists[n]))
		}
	}
}

// TestBuildTwice: the same log has the same index each time, in whatever order a map tells its terms.
func TestBuildTwice(t *testing.T) {
	l := someLog(chance(2), 100, 20)
	x := Build(l...)
	for range 100 {
		wantIndex(t, x, l...)
	}
}

// P18.2

// three is an index that may be for 4.
func three() api.Index {
	return api.Index{Terms: []string{"@db", "disk", "full"}, Lists: [][]int{{0}, {0, 2}, {1, 2, 3}}}
}

// with tells an index that is three, but for a change.
func with(change func(x *api.Index)) api.Index {
	x := three()
	change(&x)
	return x
}

func TestMayBounds(t *testing.T) {
	for _, bound := range []int{4, 5, 127, 128, 19999, 20000} {
		if !May(bound, three()) {
			t.Error("an index of numbers up to 3 may not be for", bound)
		}
	}
	for _, bound := range append([]int{0, 1, 2, 3}, wrongBounds...) {
		if May(bound, three()) {
			t.Error("an index of numbers up to 3 may be for", bound)
		}
	}
	for _, bound := range []int{0, 1, 2, 19999, 20000} {
		if !May(bound, api.Index{}) || !May(bound, api.Index{Terms: []string{}, Lists: [][]int{}}) {
			t.Error("the empty index may not be for", bound)
		}
	}
	for _, bound := range wrongBounds {
		if May(bound, api.Index{}) || May(bound, api.Index{Terms: []string{}, Lists: [][]int{}}) {
			t.Error("the empty index may be for", bound)
		}
	}
	for bound, l := range edgeIndexes() {
		for _, x := range l {
			if !May(bound, x) || May(-bound-1, x) {
				t.Errorf("%v may not be for %d", x, bound)
			}
		}
	}
}

// wrongIndexes are indexes that may not be for 4, nor for any bound up to 20.
func wrongIndexes() []api.Index {
	terms := func(l ...string) api.Index {
		return with(func(x *api.Index) { x.Terms = l })
	}
	last := func(l ...int) api.Index {
		return with(func(x *api.Index) { x.Lists[2] = l })
	}
	out := []api.Index{
		{Terms: []string{"a"}},
		{Terms: []string{""}},
		{Lists: [][]int{{0}}},
		{Lists: [][]int{nil}},
		{Terms: []string{"a"}, Lists: [][]int{}},
		{Terms: []string{}, Lists: [][]int{{0}}},
		{Terms: []string{"a"}, Lists: [][]int{{0}, {1}}},
		{Terms: []string{"a"}, Lists: [][]int{{0}, nil}},
		{Terms: []string{"a", "b"}, Lists: [][]int{{0}}},
		{Terms: []string{"a"}, Lists: [][]int{nil}},
		{Terms: []string{"a"}, Lists: [][]int{{}}},
		terms("@db", "disk"), terms("@db", "disk", "full", "no"),
		terms("", "disk", "full"), terms("@db", "", "full"), terms("@db", "disk", ""),
		terms("disk", "@db", "full"), terms("@db", "full", "disk"), terms("@db", "disk", "disk"), terms("@db", "@db", "disk"), terms("@db", "disk", "dis"), terms("disk", "full", "@db"), terms("@db", "disk", "Full"), terms("a", "\xff", "b"),
		terms("@db", "disk", strings.Repeat("x", 26)), terms(strings.Repeat("a", 26), "b", "c"), terms("a", strings.Repeat("b", 26), "c"), terms("a", "b", strings.Repeat("x", 256+1)), terms("a", "b", strings.Repeat("x", 1<<16+1)),
		last(), last(-1), last(-1, 0), last(20), last(1, 20), last(0, 0), last(1, 0), last(0, 2, 1), last(1, 1, 2), last(0, 1, 1), last(0, -1), last(0, 1<<32), last(1 << 32), last(-1 << 32), last(0, 1, 2, 3, 2),
	}
	for i := range 3 {
		for _, list := range [][]int{nil, {}, {-1}, {20}, {1, 1}, {2, 1}} {
			out = append(out, with(func(x *api.Index) { x.Lists[i] = list }))
		}
	}
	return out
}

func TestMayNot(t *testing.T) {
	for _, x := range wrongIndexes() {
		for bound := range 21 {
			if May(bound, x) {
				t.Errorf("%v may be for %d", x, bound)
			}
		}
	}
}

// TestMayTerms: texts of any bytes may be terms of an index, whether words or not.
func TestMayTerms(t *testing.T) {
	for _, l := range [][]string{{"\x00"}, {" "}, {"A"}, {"A b"}, {"@"}, {"@@"}, {"\xff\xff"}, {"a", "a\x00", "aa"}, {"A", "a"}, {strings.Repeat("x", 25)}, {strings.Repeat("\xff", 24), strings.Repeat("\xff", 25)}} {
		x := api.Index{Terms: l, Lists: slices.Repeat([][]int{{0}}, len(l))}
		if !May(1, x) || May(0, x) {
			t.Errorf("%v may not be for 1", x)
		}
	}
}

// TestMayMany: as many terms as may be, and one more.
func TestMayMany(t *testing.T) {
	const most = 1 << 20
	x := api.Index{Terms: make([]string, most+1), Lists: slices.Repeat([][]int{{0}}, most+1)}
	for i := range x.Terms {
		x.Terms[i] = string([]byte{'A' + byte(i>>16), byte(i >> 8), byte(i)})
	}
	if May(1, x) {
		t.Error("one more than 2^20 terms may be")
	}
	if _, e := Bytes(64, 1, x); e != api.ErrArg {
		t.Error("one more than 2^20 terms: error", e)
	}
	x.Terms, x.Lists = x.Terms[:most], x.Lists[:most]
	if !May(1, x) {
		t.Error("2^20 terms may not be")
	}
	b, e := Bytes(64, 1, x)
	if e != api.OK {
		t.Fatal("2^20 terms: error", e)
	}
	if y, e := Read(64, 1, b); e != api.OK || !plainSame(x, y) {
		t.Error("2^20 terms are written, but not read: error", e)
	}
}

// TestMayChance: indexes with a change somewhere, which makes some of them such as may not be.
func TestMayChance(t *testing.T) {
	r := chance(3)
	seen := [2]int{}
	for range 20000 {
		bound := 1 + r.Intn(6)
		x := someIndex(r, bound, 4)
		if n := len(x.Terms); n > 0 {
			i, k := r.Intn(n), r.Intn(n)
			switch r.Intn(6) {
			case 0:
				x.Terms[i], x.Terms[k] = x.Terms[k], x.Terms[i]
			case 1:
				x.Terms[i] += "x"
			case 2:
				x.Lists[i] = append(x.Lists[i], r.Intn(7)-1)
			case 3:
				x.Lists[i] = x.Lists[i][:len(x.Lists[i])-1]
			case 4:
				x.Lists = x.Lists[:n-r.Intn(2)]
			}
		}
		may := May(bound, x)
		if may != plainMay(bound, x) {
			t.Fatalf("below %d, %v: %t", bound, x, may)
		}
		if may {
			seen[1]++
		} else {
			seen[0]++
		}
	}
	if seen[0] < 1000 || seen[1] < 1000 {
		t.Error("one answer is seldom seen:", seen)
	}
}

// wantSame sees whether two indexes are the same, one held against the other, and the other against the one.
func wantSame(t *testing.T, want bool, x, y api.Index) {
	t.Helper()
	if Same(x, y) != want || Same(y, x) != want {
		t.Errorf("%v, %v: not %t", x, y, want)
	}
}

func TestSame(t *testing.T) {
	wantSame(t, true, api.Index{}, api.Index{Terms: []string{}, Lists: [][]int{}})
	wantSame(t, true, three(), three())
	for i, change := range []func(x *api.Index){
		func(x *api.Index) { x.Terms[0] = "@da" },
		func(x *api.Index) { x.Terms[1] = "Disk" },
		func(x *api.Index) { x.Terms[2] = "ful" },
		func(x *api.Index) { x.Terms[2] = "full\x00" },
		func(x *api.Index) { x.Terms[0], x.Terms[1] = x.Terms[1], x.Terms[0] },
		func(x *api.Index) { x.Terms = x.Terms[:2] },
		func(x *api.Index) { x.Terms = x.Terms[1:] },
		func(x *api.Index) { x.Terms = nil },
		func(x *api.Index) { x.Terms = append(x.Terms, "") },
		func(x *api.Index) { x.Terms = append(x.Terms, "x") },
		func(x *api.Index) { x.Lists = x.Lists[:2] },
		func(x *api.Index) { x.Lists = x.Lists[1:] },
		func(x *api.Index) { x.Lists = nil },
		func(x *api.Index) { x.Lists = append(x.Lists, nil) },
		func(x *api.Index) { x.Lists = append(x.Lists, []int{5}) },
		func(x *api.Index) { x.Lists[0] = nil },
		func(x *api.Index) { x.Lists[0][0] = 1 },
		func(x *api.Index) { x.Lists[0][0] = 1 << 32 },
		func(x *api.Index) { x.Lists[1] = x.Lists[1][:1] },
		func(x *api.Index) { x.Lists[2] = x.Lists[2][:2] },
		func(x *api.Index) { x.Lists[2][2] = 4 },
		func(x *api.Index) { x.Lists[2] = append(x.Lists[2], 0) },
		func(x *api.Index) { x.Lists[0], x.Lists[1] = []int{0, 0}, []int{2} },
		func(x *api.Index) { x.Lists[0], x.Lists[1] = x.Lists[1], x.Lists[0] },
		func(x *api.Index) { x.Terms, x.Lists = nil, nil },
	} {
		x := with(change)
		wantSame(t, true, x, x)
		wantSame(t, true, x, copyOf(x))
		if Same(x, three()) || Same(three(), x) {
			t.Errorf("change %d: %v is the same as %v", i, x, three())
		}
	}
}

// TestSameAny: indexes are the same whether they may be or not; a list that is nil is an empty one.
func TestSameAny(t *testing.T) {
	for _, x := range wrongIndexes() {
		wantSame(t, true, x, copyOf(x))
		wantSame(t, false, x, three())
	}
	wantSame(t, true, api.Index{Lists: [][]int{nil, {}}}, api.Index{Lists: [][]int{{}, nil}})
	wantSame(t, false, api.Index{Lists: [][]int{nil}}, api.Index{})
	wantSame(t, false, api.Index{Lists: [][]int{nil}}, api.Index{Lists: [][]int{nil, nil}})
	wantSame(t, false, api.Index{Terms: []string{""}}, api.Index{})
}

func TestSameChance(t *testing.T) {
	r := chance(4)
	seen := 0
	for range 20000 {
		x, y := someIndex(r, 2, 2), someIndex(r, 2, 2)
		if r.Intn(2) == 0 {
			y = copyOf(x)
		}
		if len(y.Terms) > 0 && r.Intn(2) == 0 {
			y.Lists[0] = append(y.Lists[0], 2)
		}
		same := plainSame(x, y)
		wantSame(t, same, x, y)
		if same && !isEmpty(x) {
			seen++
		}
	}
	if seen < 100 {
		t.Error("full ones that are the same are seldom seen:", seen)
	}
}

// P18.3

func TestBytesByHand(t *testing.T) {
	for _, x := range []struct {
		size, bound int
		x           api.Index
		b           string
	}{
		{1, 0, api.Index{}, "\x00"},
		{64, 20000, api.Index{}, "\x00"},
		{1, 1, api.Index{Terms: []string{"a"}, Lists: [][]int{{0}}}, "\x01\x02\x01a" + "\x01\x80"},
		{1, 8, api.Index{Terms: []string{"a"}, Lists: [][]int{{2, 3, 5, 7}}}, "\x01\x02\x01a" + "\x04\x76\xa0"},
		{1, 8, api.Index{Terms: []string{"a", "b"}, Lists: [][]int{{2, 3, 5, 7}, {7}}}, "\x02\x02\x02\x01a\x01b" + "\x04\x76\xa0" + "\x01\xf0"},
		{2, 8, api.Index{Terms: []string{"a", "b"}, Lists: [][]int{{2, 3, 5, 7}, {7}}}, "\x02\x05\x01a\x00\x01b" + "\x04\x76\xa0" + "\x01\xf0"},
		{2, 8, api.Index{Terms: []string{"a", "b"}, Lists: [][]int{{7}, {2, 3, 5, 7}}}, "\x02\x05\x01a\x00\x01b" + "\x01\xf0" + "\x04\x76\xa0"},
		{2, 2, api.Index{Terms: []string{"disk", "full"}, Lists: [][]int{{0}, {0, 1}}}, "\x02\x0b\x04disk\x00\x04full" + "\x01\x40" + "\x02\xa0"},
		{2, 2, api.Index{Terms: []string{"disk", "disks", "full"}, Lists: [][]int{{0}, {1}, {0, 1}}}, "\x03\x08\x05\x04disk\x04\x01s\x04full" + "\x01\x40" + "\x01\xc0" + "\x02\xa0"},
		{64, 20000, api.Index{Terms: []string{"a"}, Lists: [][]int{{19999}}}, "\x01\x02\x01a" + "\x01\x38\x7d"},
	} {
		if b, e := Bytes(x.size, x.bound, x.x); e != api.OK || string(b) != x.b {
			t.Errorf("buckets of %d, below %d, %v: %q, error %d, not %q", x.size, x.bound, x.x, b, e, x.b)
		}
	}
}

// wantBytes sees that the index is told as bytes, and read of them.
func wantBytes(t *testing.T, size, bound int, x api.Index) {
	t.Helper()
	b, e := Bytes(size, bound, x)
	if e != api.OK || !bytes.Equal(b, plainBytes(size, bound, x)) {
		t.Fatalf("buckets of %d, below %d, %v: %q, error %d", size, bound, x, few(b), e)
	}
	if y, e := Read(size, bound, b); e != api.OK || !plainSame(x, y) {
		t.Fatalf("buckets of %d, below %d, %v is read as %v, error %d", size, bound, x, y, e)
	}
}

// wantRefused sees that Bytes tells nothing but ErrArg.
func wantRefused(t *testing.T, size, bound int, x api.Index) {
	t.Helper()
	if b, e := Bytes(size, bound, x); e != api.ErrArg || len(b) != 0 {
		t.Errorf("buckets of %d, below %d, %v: %q, error %d", size, bound, x, few(b), e)
	}
}

func TestBytesAll(t *testing.T) {
	for bound, l := range edgeIndexes() {
		for _, x := range l {
			for _, size := range sizes {
				wantBytes(t, size, bound, x)
			}
		}
	}
	r := chance(5)
	for range 3000 {
		bound := r.Intn(1 << (1 + r.Intn(14)))
		wantBytes(t, 1+r.Intn(64), bound, someIndex(r, bound, 20))
	}
	for range 20 {
		wantBytes(t, 1+r.Intn(64), 300, someIndex(r, 300, 500))
	}
}

func TestBytesRefuses(t *testing.T) {
	for _, size := range wrongSizes {
		wantRefused(t, size, 0, api.Index{})
		wantRefused(t, size, 4, three())
		wantRefused(t, size, -1, api.Index{})
	}
	for _, bound := range wrongBounds {
		wantRefused(t, 1, bound, api.Index{})
		wantRefused(t, 64, bound, three())
	}
	for _, x := range wrongIndexes() {
		for _, size := range sizes {
			wantRefused(t, size, 4, x)
		}
	}
	for bound := range 4 {
		wantRefused(t, 2, bound, three())
	}
	wantRefused(t, 2, 20000, api.Index{Terms: []string{"a"}, Lists: [][]int{{20000}}})
	wantRefused(t, 2, 20000, api.Index{Terms: []string{"a"}, Lists: [][]int{span(0, 20001, 1)}})
}

// TestBytesSayMay: an index has bytes just if it may be.
func TestBytesSayMay(t *testing.T) {
	r := chance(6)
	for range 5000 {
		of := 1 + r.Intn(6)
		x := someIndex(r, of, 4)
		for bound := -1; bound <= of; bound++ {
			b, e := Bytes(1+r.Intn(64), bound, x)
			if may := plainMay(bound, x); may != (e == api.OK) || may != (len(b) > 0) || !may && e != api.ErrArg {
				t.Fatalf("below %d, %v: %q, error %d", bound, x, b, e)
			}
		}
	}
}

// P18.4

func TestReadByHand(t *testing.T) {
	x, e := Read(2, 8, []byte("\x03\x08\x05\x04disk\x04\x01s\x04full"+"\x01\x70"+"\x04\x76\xa0"+"\x01\xf0"))
	want := api.Index{Terms: []string{"disk", "disks", "full"}, Lists: [][]int{{3}, {2, 3, 5, 7}, {7}}}
	if e != api.OK || !plainSame(x, want) {
		t.Errorf("%v, error %d, not %v", x, e, want)
	}
	x, e = Read(1, 2, []byte("\x02\x05\x05\x04disk\x04full"+"\x01\x40"+"\x02\xc0"))
	want = api.Index{Terms: []string{"disk", "full"}, Lists: [][]int{{0}, {0, 1}}}
	if e != api.ErrForm || !isEmpty(x) {
		t.Errorf("two numbers below 2 have no low bits, and the second one's are as the first one's: %v, error %d", x, e)
	}
	x, e = Read(1, 2, []byte("\x02\x05\x05\x04disk\x04full"+"\x01\x40"+"\x02\xa0"))
	if e != api.OK || !plainSame(x, want) {
		t.Errorf("%v, error %d, not %v", x, e, want)
	}
}

func TestReadEmpty(t *testing.T) {
	for _, size := range sizes {
		for _, bound := range []int{0, 1, 2, 20000} {
			if x, e := Read(size, bound, []byte{0}); e != api.OK || !isEmpty(x) {
				t.Errorf("buckets of %d, below %d: %v, error %d", size, bound, x, e)
			}
			if x, e := Read(size, bound, nil); e != api.ErrShort || !isEmpty(x) {
				t.Errorf("buckets of %d, below %d, nothing: %v, error %d", size, bound, x, e)
			}
			if x, e := Read(size, bound, []byte{0, 0}); e != api.ErrForm || !isEmpty(x) {
				t.Errorf("buckets of %d, below %d, a byte left: %v, error %d", size, bound, x, e)
			}
		}
	}
}

func TestReadRefuses(t *testing.T) {
	const one, two = "\x01\x02\x01a", "\x02\x02\x02\x01a\x01b" // dictionaries of one and two terms, in buckets of 1
	many := strings.Repeat("\xff", 9)
	for _, x := range []struct {
		what        string
		size, bound int
		b           string
		e           api.Errno
	}{
		{"a size of 0, and nothing", 0, 8, "", api.ErrArg},
		{"a size of 65, and nothing", 65, 8, "", api.ErrArg},
		{"a bound of -1, and nothing", 1, -1, "", api.ErrArg},
		{"a bound of 20001, and nothing", 1, 20001, "", api.ErrArg},
		{"a bound of -1, and no terms", 1, -1, "\x00", api.ErrArg},
		{"a bound of 20001, and no terms", 1, 20001, "\x00", api.ErrArg},
		{"a bound of 20001, and no dictionary", 1, 20001, "\x80\x00", api.ErrArg},
		{"a bound of 20001, and a byte left", 1, 20001, "\x00\x00", api.ErrArg},

		{"nothing", 1, 8, "", api.ErrShort},
		{"a count of terms that goes on", 1, 8, "\x81", api.ErrShort},
		{"a count of terms of two bytes that is 0", 1, 8, "\x80\x00", api.ErrForm},
		{"one more than 2^20 terms", 1, 8, "\x81\x80\x40", api.ErrLimit},
		{"2^20 terms, and nothing", 1, 8, "\x80\x80\x40", api.ErrShort},
		{"a bucket of 2001 bytes", 1, 8, "\x01\xd1\x0f\x01a", api.ErrLimit},
		{"a bucket that isn't there", 1, 8, "\x01\x02", api.ErrShort},
		{"a term of no bytes", 1, 8, "\x01\x01\x00\x01\xf0", api.ErrForm},
		{"a term of 26 bytes", 1, 8, "\x01\x1b\x1a" + strings.Repeat("x", 26) + "\x01\xf0", api.ErrLimit},
		{"terms that don't rise", 1, 8, "\x02\x02\x02\x01b\x01a\x01\xf0\x01\xf0", api.ErrForm},
		{"terms that don't rise, and no lists", 1, 8, "\x02\x02\x02\x01b\x01a", api.ErrForm},
		{"a byte left in a bucket, and no lists", 1, 8, "\x01\x03\x01ab", api.ErrForm},
		{"a bucket of two, of buckets of one", 1, 8, "\x02\x05\x01a\x00\x01b\x01\xf0\x01\xf0", api.ErrLimit},

		{"no list", 1, 8, one, api.ErrShort},
		{"a list's count that goes on", 1, 8, one + "\x81", api.ErrShort},
		{"a list's count of two bytes", 1, 8, one + "\x81\x00\x28", api.ErrForm},
		{"a list's count whose tenth byte is 2", 1, 8, one + many + "\x02", api.ErrForm},
		{"the greatest list's count", 1, 8, one + many + "\x01", api.ErrLimit},
		{"a list's count that is 1 in its lowest 32 bits", 1, 8, one + "\x81\x80\x80\x80\x10\x28", api.ErrLimit},
		{"one number more than there are below the bound", 1, 8, one + "\x09\xff\x80", api.ErrLimit},
		{"a number below the bound 0", 1, 0, one + "\x01\x80", api.ErrLimit},
		{"low bits that aren't there", 1, 8, one + "\x01", api.ErrShort},
		{"low bits that aren't all there", 1, 20000, one + "\x01\x38", api.ErrShort},
		{"unary bits that aren't there", 1, 8, one + "\x01\x00", api.ErrShort},
		{"unary bits without an end", 1, 16, one + "\x04\x76\x00\x00\x00", api.ErrShort},
		{"a number as the one ahead", 1, 8, one + "\x02\x5c", api.ErrForm},
		{"a number below the one ahead", 1, 8, one + "\x02\x9c", api.ErrForm},
		{"a number that is the bound", 1, 5, one + "\x01\x50", api.ErrRange},
		{"a number above the bound", 1, 8, one + "\x01\x02", api.ErrRange},
		{"a bit up to the whole byte that isn't 0", 1, 8, one + "\x01\x38", api.ErrForm},
		{"a list without numbers", 1, 8, one + "\x00", api.ErrForm},
		{"a list without numbers, below 0", 1, 0, one + "\x00", api.ErrForm},
		{"a list without numbers, and a byte left", 1, 8, one + "\x00\x00", api.ErrForm},

		{"no second list", 1, 8, two + "\x01\xf0", api.ErrShort},
		{"a second list that isn't whole", 1, 8, two + "\x01\xf0\x04\x76", api.ErrShort},
		{"a second list without numbers", 1, 8, two + "\x01\xf0\x00", api.ErrForm},
		{"a second list of one number more than there are", 1, 8, two + "\x01\xf0\x09", api.ErrLimit},
		{"a second list's number that is the bound", 1, 5, two + "\x01\x10\x01\x50", api.ErrRange},
		{"a first list without numbers, no second one", 1, 8, two + "\x00", api.ErrForm},
		{"a first list without numbers, a second one beyond the limit", 1, 8, two + "\x00\x09", api.ErrForm},
		{"a first list without numbers, a second one beyond the range", 1, 5, two + "\x00\x01\x50", api.ErrForm},
		{"a first list beyond the range, a second one without numbers", 1, 5, two + "\x01\x50\x00", api.ErrRange},
		{"a first list beyond the limit, a second one without numbers", 1, 8, two + "\x09\x00", api.ErrLimit},
		{"a first list of no form, a second one that isn't there", 1, 8, two + "\x02\x5c", api.ErrForm},

		{"a byte left behind no terms", 1, 8, "\x00\x00", api.ErrForm},
		{"a byte left behind a list", 1, 8, one + "\x01\xf0\x00", api.ErrForm},
		{"a list left", 1, 8, one + "\x01\xf0\x01\xf0", api.ErrForm},
		{"a list left without numbers", 1, 8, two + "\x01\xf0\x01\xf0\x00", api.ErrForm},
		{"a list left beyond the range", 1, 5, one + "\x01\x10\x01\x50", api.ErrForm},
	} {
		if y, e := Read(x.size, x.bound, []byte(x.b)); e != x.e || !isEmpty(y) {
			t.Errorf("%s: %v, error %d, not %d", x.what, y, e, x.e)
		}
		checkRead(t, x.size, x.bound, []byte(x.b))
	}
}

func TestReadWrongArguments(t *testing.T) {
	for _, b := range []string{"", "\x00", "\x00\x00", "\x01\x02\x01a\x01\xf0", "\x80\x00", "\x81\x80\x40"} {
		for _, size := range wrongSizes {
			for _, bound := range append([]int{0, 8, 20000}, wrongBounds...) {
				if x, e := Read(size, bound, []byte(b)); e != api.ErrArg || !isEmpty(x) {
					t.Errorf("buckets of %d, below %d, %q: %v, error %d", size, bound, b, x, e)
				}
			}
		}
		for _, bound := range wrongBounds {
			for _, size := range sizes {
				if x, e := Read(size, bound, []byte(b)); e != api.ErrArg || !isEmpty(x) {
					t.Errorf("buckets of %d, below %d, %q: %v, error %d", size, bound, b, x, e)
				}
			}
		}
	}
}

// each hands on all rows of n of these bytes, behind the ones ahead.
func each(n int, of string, ahead []byte, hand func(b []byte)) {
	if n == 0 {
		hand(ahead)
		return
	}
	for i := range len(of) {
		each(n-1, of, append(ahead, of[i]), hand)
	}
}

// TestReadSmall: all rows of up to two bytes, and all rows of few bytes, some behind dictionaries.
func TestReadSmall(t *testing.T) {
	var all []byte
	for c := range 256 {
		all = append(all, byte(c))
	}
	for _, bound := range []int{0, 1, 2, 3, 5, 9} {
		check := func(b []byte) { checkRead(t, 1, bound, b) }
		for n := range 3 {
			each(n, string(all), nil, check)
			each(n, string(all), []byte("\x01\x02\x01a"), check)
		}
		for n := 3; n < 7; n++ {
			each(n, "\x00\x01\x02a\x80", nil, check)
		}
		for n := 1; n < 6; n++ {
			each(n, "\x00\x01\x02\x40\x80\xff", []byte("\x02\x02\x02\x01a\x01b"), check)
		}
	}
}

// TestReadCut: of each index's bytes each cut row, and each with a byte behind.
func TestReadCut(t *testing.T) {
	for bound, l := range edgeIndexes() {
		for _, x := range l {
			b := plainBytes(3, bound, x)
			for n := range b {
				if n > 60 && n < len(b)-60 {
					continue
				}
				if y, e := Read(3, bound, b[:n]); e != api.ErrShort || !isEmpty(y) {
					t.Fatalf("%d of %d bytes: %v, error %d", n, len(b), y, e)
				}
			}
			for c := range 256 {
				if y, e := Read(3, bound, append(slices.Clone(b), byte(c))); e != api.ErrForm || !isEmpty(y) {
					t.Fatalf("%d bytes and a byte %d: %v, error %d", len(b), c, y, e)
				}
			}
		}
	}
}

// change tells bytes with one taken out, put in, or made another one.
func change(b []byte, how, at int, to byte) []byte {
	b = slices.Clone(b)
	switch how {
	case 0:
		return slices.Delete(b, at, at+1)
	case 1:
		return slices.Insert(b, at, to%4)
	case 2:
		b[at] ^= 1 << (to % 8)
	case 3:
		b[at]++
	case 4:
		b[at]--
	}
	return b
}

// TestReadChance: bytes of indexes that were changed, or not; and read with other sizes and bounds.
func TestReadChance(t *testing.T) {
	r := chance(7)
	seen := map[api.Errno]int{}
	for range 60000 {
		size, bound := 1+r.Intn(4), r.Intn([]int{3, 40, 20001}[r.Intn(3)])
		b := plainBytes(size, bound, someIndex(r, min(bound, 50), 6))
		for range r.Intn(3) {
			if len(b) > 0 {
				b = change(b, r.Intn(5), r.Intn(len(b)), byte(r.Intn(256)))
			}
		}
		seen[checkRead(t, size, bound, b)]++
		seen[checkRead(t, 1+r.Intn(5), max(0, bound-r.Intn(3)), b)]++
	}
	for _, e := range []api.Errno{api.OK, api.ErrShort, api.ErrForm, api.ErrLimit, api.ErrRange} {
		if seen[e] < 1000 {
			t.Error("error", e, "is seldom seen:", seen)
		}
	}
}

// P18.5

// TestRecordsHaveTerms: a record is in a term's list just if the term is one of its terms.
func TestRecordsHaveTerms(t *testing.T) {
	r := chance(8)
	for range 500 {
		l := someLog(r, 20, 6)
		x := Build(l...)
		for k, term := range x.Terms {
			for i, record := range l {
				if slices.Contains(x.Lists[k], i) != plainHas(record, term) {
					t.Fatalf("%v: record %d isn't in the list of %q, or is", l, i, term)
				}
			}
		}
		for _, record := range l {
			for _, word := range plainWords(record.Text) {
				if !slices.Contains(x.Terms, word) {
					t.Fatalf("%v: the term %q isn't there", l, word)
				}
			}
		}
	}
}

// wantThereAndBack sees that the index of a log may be for as many, and that it is written and read.
func wantThereAndBack(t *testing.T, size int, l []api.Record) {
	t.Helper()
	x := Build(l...)
	if !May(len(l), x) {
		t.Fatalf("the index of %d records may not be for as many", len(l))
	}
	b, e := Bytes(size, len(l), x)
	if e != api.OK {
		t.Fatalf("%d records: error %d", len(l), e)
	}
	if y, e := Read(size, len(l), b); e != api.OK || !Same(x, y) {
		t.Fatalf("%d records: written, but not read: error %d", len(l), e)
	}
}

func TestThereAndBack(t *testing.T) {
	r := chance(9)
	for range 1000 {
		wantThereAndBack(t, 1+r.Intn(64), someLog(r, 30, 8))
	}
	for _, n := range []int{0, 1, 19999, 20000} {
		l := make([]api.Record, n)
		wantThereAndBack(t, 64, l)
		for i := range l {
			l[i] = api.Record{Source: "db" + strconv.Itoa(i%3), Text: "all " + strconv.Itoa(i)}
		}
		for _, size := range sizes {
			wantThereAndBack(t, size, l)
		}
	}
}

// TestTooMany: the index of more than 20,000 records may be for no bound, if the last one has a term.
func TestTooMany(t *testing.T) {
	l := make([]api.Record, 20001)
	l[20000].Text = "last"
	x := Build(l...)
	for _, bound := range []int{0, 1, 20000, 20001} {
		if May(bound, x) {
			t.Error("it may be for", bound)
		}
		wantRefused(t, 1, bound, x)
	}
}

// TestReadIsWritten: all rows of bytes that are read are those that are written (see checkRead), and no index has two.
func TestReadIsWritten(t *testing.T) {
	r := chance(10)
	for range 300 {
		size, bound := 1+r.Intn(4), 1+r.Intn(30)
		x := someIndex(r, bound, 4)
		b := plainBytes(size, bound, x)
		for at := range b {
			for bit := range 8 {
				turned := change(b, 2, at, byte(bit))
				checkRead(t, size, bound, turned)
				if y, e := Read(size, bound, turned); e == api.OK && plainSame(x, y) {
					t.Fatalf("below %d, both %q and %q are read as %v", bound, b, turned, x)
				}
			}
		}
	}
}

// What holds everywhere

// roomy tells an index with spare room behind its lists, and all of it, to be held against what it was.
func roomy(x api.Index) (api.Index, api.Index) {
	whole := api.Index{Terms: append(slices.Clone(x.Terms), "spare", "room"), Lists: [][]int{}}
	given := api.Index{Terms: whole.Terms[:len(x.Terms)]}
	for _, list := range x.Lists {
		whole.Lists = append(whole.Lists, append(slices.Clone(list), 77, 78))
	}
	whole.Lists = append(whole.Lists, []int{5}, []int{6})
	for i, list := range x.Lists {
		given.Lists = append(given.Lists, whole.Lists[i][:len(list)])
	}
	return given, whole
}

// TestIndexesStay: indexes that are handed in stay, their spare room, too; bytes are apart from them.
func TestIndexesStay(t *testing.T) {
	r := chance(11)
	for range 500 {
		bound := 1 + r.Intn(20)
		x := someIndex(r, bound, 6)
		given, whole := roomy(x)
		before := copyOf(whole)
		b, _ := Bytes(2, bound, given)
		other, _ := Bytes(2, bound, given)
		May(bound, given)
		Same(given, x)
		clear(other[:cap(other)])
		if !plainSame(whole, before) {
			t.Fatal("an index is changed")
		}
		for _, list := range whole.Lists {
			clear(list)
		}
		clear(whole.Terms)
		if !bytes.Equal(b, plainBytes(2, bound, x)) {
			t.Fatal("bytes hang together with an index, or with others")
		}
	}
}

// spoil writes over the lists of an index, and over their spare room.
func spoil(x api.Index) {
	for _, list := range x.Lists {
		for i := range cap(list) {
			list[:cap(list)][i] = -7
		}
	}
	clear(x.Lists[:cap(x.Lists)])
	clear(x.Terms[:cap(x.Terms)])
}

// wantApart sees that no list of an index, nor its spare room, is in another list of it.
func wantApart(t *testing.T, x api.Index) {
	t.Helper()
	want := copyOf(x)
	for i, list := range x.Lists {
		for k := range cap(list) {
			list[:cap(list)][k] = -7
		}
		x.Lists[i] = want.Lists[i]
		if !plainSame(x, want) {
			t.Fatal("lists hang together")
		}
	}
}

// TestLogsStay: logs that are handed in stay; indexes are apart from them, and from each other.
func TestLogsStay(t *testing.T) {
	r := chance(12)
	for range 500 {
		l := someLog(r, 10, 6)
		whole := append(slices.Clone(l), api.Record{Text: "spare"}, api.Record{Text: "room"})
		before := slices.Clone(whole)
		x := Build(whole[:len(l)]...)
		spoil(Build(whole[:len(l)]...))
		if !slices.Equal(whole, before) {
			t.Fatal("a log is changed")
		}
		clear(whole)
		if !plainSame(x, plainBuild(l)) {
			t.Fatal("an index hangs together with a log, or with another index")
		}
		wantApart(t, x)
	}
}

// TestBytesStay: bytes that are handed in stay, their spare room, too, and aren't kept; indexes are apart from each other.
func TestBytesStay(t *testing.T) {
	r := chance(13)
	for range 500 {
		bound := 1 + r.Intn(20)
		x := someIndex(r, bound, 6)
		whole := append(plainBytes(2, bound, x), "spare room"...)
		before := slices.Clone(whole)
		given := whole[:len(whole)-len("spare room")]
		y, _ := Read(2, bound, given)
		other, _ := Read(2, bound, given)
		spoil(other)
		if !bytes.Equal(whole, before) {
			t.Fatal("bytes are changed")
		}
		clear(whole)
		if !plainSame(x, y) {
			t.Fatal("an index hangs together with bytes, or with another index")
		}
		wantApart(t, y)
	}
}
