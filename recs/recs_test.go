package recs

import (
	"bytes"
	"math"
	"slices"
	"strings"
	"testing"

	"firkin/api"
)

// P17.1

func TestWeightByHand(t *testing.T) {
	for _, c := range []struct {
		l    []api.Record
		want int
	}{
		{nil, 0},
		{[]api.Record{{}}, 16},
		{[]api.Record{{Time: math.MaxUint64, Level: 255}}, 16},
		{[]api.Record{{Source: "db"}}, 18},
		{[]api.Record{{Text: "disk full"}}, 25},
		{[]api.Record{{Time: 300, Level: 2, Source: "db", Text: "go"}}, 20},
		{[]api.Record{{Source: "é", Text: "\x00\xff"}}, 20},
		{[]api.Record{{Source: "db"}, {}, {Text: "go"}}, 52},
		{[]api.Record{{Source: x(128), Text: x(128)}}, 272},
		{same(20001, api.Record{}), 320016},
		{[]api.Record{{Source: x(1 << 21), Text: x(4001)}}, 1<<21 + 4001 + 16},
	} {
		if n := Weight(c.l...); n != c.want {
			t.Errorf("%d records weigh %d, not %d", len(c.l), n, c.want)
		}
	}
}

// wantCheck sees what Check tells of a log, whichever way round it is.
func wantCheck(t *testing.T, what string, want api.Errno, l ...api.Record) {
	t.Helper()
	for range 2 {
		if e := Check(l...); e != want || plainCheck(l) != want {
			t.Errorf("%s: error %d, not %d", what, e, want)
		}
		l = slices.Clone(l)
		slices.Reverse(l)
	}
}

func TestCheckRecords(t *testing.T) {
	wantCheck(t, "none", api.OK)
	wantCheck(t, "an empty one", api.OK, api.Record{})
	wantCheck(t, "all that a record has", api.OK, api.Record{Time: math.MaxUint64, Level: 255, Source: "\xff", Text: "\x00"})
	wantCheck(t, "as many as may be", api.OK, same(20000, api.Record{})...)
	wantCheck(t, "one more", api.ErrLimit, same(20001, api.Record{})...)
	wantCheck(t, "far more", api.ErrLimit, same(1<<16, api.Record{})...)
}

func TestCheckFields(t *testing.T) {
	for _, c := range []struct {
		source, text int
		want         api.Errno
	}{{4000, 0, api.OK}, {0, 4000, api.OK}, {4000, 4000, api.OK}, {3999, 4000, api.OK}, {4001, 0, api.ErrLimit}, {0, 4001, api.ErrLimit}, {4001, 4000, api.ErrLimit}, {4000, 4001, api.ErrLimit}, {1 << 16, 0, api.ErrLimit}, {0, 1<<16 + 1, api.ErrLimit}} {
		one := api.Record{Source: x(c.source), Text: x(c.text)}
		wantCheck(t, "one record", c.want, one)
		wantCheck(t, "the last record", c.want, api.Record{Text: "a"}, api.Record{}, one)
		wantCheck(t, "one in the middle", c.want, api.Record{Text: "a"}, one, api.Record{Source: "a"})
	}
	wantCheck(t, "4000 bytes of 2000 letters", api.OK, api.Record{Text: strings.Repeat("é", 2000)})
	wantCheck(t, "4002 bytes of 2001 letters", api.ErrLimit, api.Record{Text: strings.Repeat("é", 2001)})
}

func TestCheckWeight(t *testing.T) {
	full := same(130, api.Record{Source: x(4000), Text: x(4000)})
	for _, c := range []struct {
		what string
		l    []api.Record
		left int // of what a log weighs
	}{
		{"texts", same(261, api.Record{Text: x(4000)}), 400},
		{"sources", same(261, api.Record{Source: x(4000)}), 400},
		{"both", full, 6496},
		{"many", slices.Concat(same(19999-182, api.Record{}), same(182, api.Record{Text: x(4000)})), 592},
	} {
		if n := Weight(c.l...); n != 1<<20-c.left {
			t.Fatalf("%s: %d", c.what, n)
		}
		half := (c.left - 16) / 2
		wantCheck(t, c.what+", just as much", api.OK, append(c.l, api.Record{Source: x(half), Text: x(c.left - 16 - half)})...)
		wantCheck(t, c.what+", one byte more in a text", api.ErrLimit, append(c.l, api.Record{Source: x(half), Text: x(c.left - 15 - half)})...)
		wantCheck(t, c.what+", one byte more in a source", api.ErrLimit, append(c.l, api.Record{Source: x(half + 1), Text: x(c.left - 16 - half)})...)
	}
	wantCheck(t, "65536 empty records weigh as much, but are too many", api.ErrLimit, same(1<<16, api.Record{})...)
}

func TestCheckAll(t *testing.T) {
	for _, l := range logs() {
		if e := Check(l...); e != plainCheck(l) {
			t.Fatalf("%d records: error %d, not %d", len(l), e, plainCheck(l))
		}
		if n := Weight(l...); n != plainWeight(l) {
			t.Fatalf("%d records weigh %d, not %d", len(l), n, plainWeight(l))
		}
	}
}

// P17.2

func TestBytesByHand(t *testing.T) {
	for _, c := range []struct {
		l           []api.Record
		whole, half string
	}{
		{nil, "", ""},
		{[]api.Record{{}}, "\x00\x00\x00\x00", "\x00\x00"},
		{[]api.Record{{Time: 300, Level: 2, Source: "db", Text: "go"}}, "\xac\x02\x02\x02db\x02go", "\x02db\x02go"},
		{[]api.Record{{Time: 127, Level: 128, Source: "a"}, {Time: 128, Level: 255, Text: "b"}}, "\x7f\x80\x01a\x00\x80\x01\xff\x00\x01b", "\x01a\x00\x00\x01b"},
		{[]api.Record{{Time: math.MaxUint64, Text: "é"}}, strings.Repeat("\xff", 9) + "\x01\x00\x00\x02\xc3\xa9", "\x00\x02\xc3\xa9"},
		{[]api.Record{{Time: 1 << 63, Level: 1}}, strings.Repeat("\x80", 9) + "\x01\x01\x00\x00", "\x00\x00"},
		{[]api.Record{{Source: x(127), Text: x(128)}}, "\x00\x00\x7f" + x(127) + "\x80\x01" + x(128), "\x7f" + x(127) + "\x80\x01" + x(128)},
		{[]api.Record{{Source: x(4000), Text: x(4001)}}, "\x00\x00\xa0\x1f" + x(4000) + "\xa1\x1f" + x(4001), "\xa0\x1f" + x(4000) + "\xa1\x1f" + x(4001)},
	} {
		if b := Bytes(true, c.l...); string(b) != c.whole {
			t.Errorf("whole %v: %q, not %q", c.l, short(b), c.whole)
		}
		if b := Bytes(false, c.l...); string(b) != c.half {
			t.Errorf("%v: %q, not %q", c.l, short(b), c.half)
		}
	}
}

func TestBytesAll(t *testing.T) {
	for _, l := range append(logs(), same(100000, api.Record{Source: "db", Text: x(30)})) {
		for _, whole := range []bool{false, true} {
			if b := Bytes(whole, l...); !bytes.Equal(b, plainBytes(whole, l)) {
				t.Fatalf("whole %v, %d records: %q", whole, len(l), short(b))
			}
		}
	}
}

// P17.3

func TestReadByHand(t *testing.T) {
	two := []api.Record{{Time: 300, Level: 2, Source: "db", Text: "go"}, {Time: math.MaxUint64, Level: 255, Text: "x"}}
	if l, e := Read(true, []byte("\xac\x02\x02\x02db\x02go"+strings.Repeat("\xff", 9)+"\x01\xff\x00\x01x")); e != api.OK || !slices.Equal(l, two) {
		t.Errorf("%v, error %d", l, e)
	}
	if l, e := Read(false, []byte("\x02db\x02go\x00\x01x")); e != api.OK || !slices.Equal(l, []api.Record{{Source: "db", Text: "go"}, {Text: "x"}}) {
		t.Errorf("%v, error %d", l, e)
	}
	for _, whole := range []bool{false, true} {
		for _, b := range [][]byte{nil, {}} {
			if l, e := Read(whole, b); e != api.OK || len(l) != 0 {
				t.Errorf("whole %v, nothing: %v, error %d", whole, l, e)
			}
		}
	}
}

// many is what a number of ten bytes begins with; most is the greatest one.
var (
	many = strings.Repeat("\xff", 9)
	most = many + "\x01"
)

// wantRead sees that Read tells nothing but this error, behind good records, too.
func wantRead(t *testing.T, whole bool, what, b string, want api.Errno) {
	t.Helper()
	good := string(plainBytes(whole, []api.Record{{Time: 300, Level: 2, Source: "db", Text: "go"}}))
	for _, ahead := range []string{"", good, strings.Repeat(good, 20)} {
		if e := checkRead(t, whole, []byte(ahead+b)); e != want {
			t.Errorf("whole %v, %s: %q: error %d, not %d", whole, what, b, e, want)
		}
	}
}

func TestReadTimesAndLevels(t *testing.T) {
	for _, c := range []struct {
		what, b string
		e       api.Errno
	}{
		{"a time that goes on", "\x80", api.ErrShort},
		{"a time of nine bytes that goes on", many, api.ErrShort},
		{"a time of two bytes that is 0", "\x80\x00\x01\x00\x00", api.ErrForm},
		{"a time of three bytes that is 1", "\x81\x80\x00\x01\x00\x00", api.ErrForm},
		{"a time whose tenth byte is 2", many + "\x02\x01\x00\x00", api.ErrForm},
		{"a time whose tenth byte is 0", many + "\x00\x01\x00\x00", api.ErrForm},
		{"a time whose tenth byte goes on", many + "\x81\x01\x00\x00", api.ErrForm},
		{"the greatest time", most + "\x01\x00\x00", api.OK},
		{"no level", "\x05", api.ErrShort},
		{"no level behind the greatest time", most, api.ErrShort},
		{"no source", "\x05\xff", api.ErrShort},
		{"all levels may be", "\x05\x00\x00\x00\x05\x80\x00\x00\x05\xff\x00\x00", api.OK},
	} {
		wantRead(t, true, c.what, c.b, c.e)
	}
}

func TestReadTexts(t *testing.T) {
	for _, c := range []struct {
		what, b string
		e       api.Errno
	}{
		{"a count that goes on", "\x81", api.ErrShort},
		{"a count of nine bytes that goes on", many, api.ErrShort},
		{"a count of two bytes that is 1", "\x81\x00x\x00", api.ErrForm},
		{"a count whose tenth byte is 2", many + "\x02x\x00", api.ErrForm},
		{"the greatest count", most + "x\x00", api.ErrLimit},
		{"a count that is 1 in its lowest 32 bits", "\x81\x80\x80\x80\x10x\x00", api.ErrLimit},
		{"a count of 2^63", strings.Repeat("\x80", 9) + "\x01", api.ErrLimit},
		{"4001 bytes", "\xa1\x1f" + x(4001) + "\x00", api.ErrLimit},
		{"4001 bytes, not there", "\xa1\x1f", api.ErrLimit},
		{"4000 bytes, not there", "\xa0\x1f", api.ErrShort},
		{"4000 bytes, one not there", "\xa0\x1f" + x(3999), api.ErrShort},
		{"two bytes, one not there", "\x02x", api.ErrShort},
		{"one byte, not there", "\x01", api.ErrShort},
	} {
		wantRead(t, true, "of a source "+c.what, "\x05\x01"+c.b, c.e)
		wantRead(t, true, "of a text "+c.what, "\x05\x01\x02db"+c.b, c.e)
		wantRead(t, false, "of a source "+c.what, c.b, c.e)
		wantRead(t, false, "of a text "+c.what, "\x02db"+c.b, c.e)
	}
	for _, whole := range []bool{false, true} {
		head := map[bool]string{true: "\x05\x01"}[whole]
		wantRead(t, whole, "4000 bytes of both", head+"\xa0\x1f"+x(4000)+"\xa0\x1f"+x(4000), api.OK)
		wantRead(t, whole, "no text", head+"\x02db", api.ErrShort)
		wantRead(t, whole, "a wrong source ahead of a wrong text", head+"\xa1\x1f"+x(4001)+"\x80\x00", api.ErrLimit)
		wantRead(t, whole, "a wrong record ahead of another one", head+"\x81\x00x\x00"+head+"\xa1\x1f", api.ErrForm)
	}
}

// TestReadSmall: all rows of few bytes are as the plain ones.
func TestReadSmall(t *testing.T) {
	told := map[api.Errno]int{}
	for n := range 7 {
		each(n, "\x00\x01\x02\x80\xff", nil, func(b []byte) {
			for _, whole := range []bool{false, true} {
				told[checkRead(t, whole, b)]++
			}
		})
	}
	if told[api.OK] < 100 || told[api.ErrShort] < 100 || told[api.ErrForm] < 100 || told[api.ErrLimit] < 100 || len(told) != 4 {
		t.Error("too few of an error", told)
	}
}

// TestReadCut: of records that are cut there are those that are whole, or ErrShort.
func TestReadCut(t *testing.T) {
	r := chance(2)
	for range 100 {
		l := someLog(r, 5, 5)
		for _, whole := range []bool{false, true} {
			b := Bytes(whole, l...)
			ends := map[int]bool{} // where records are whole
			for i := range l {
				ends[len(plainBytes(whole, l[:i]))] = true
			}
			for n := range b {
				want := api.ErrShort
				if ends[n] {
					want = api.OK
				}
				if e := checkRead(t, whole, b[:n]); e != want {
					t.Fatalf("whole %v, %d of %d bytes: error %d, not %d", whole, n, len(b), e, want)
				}
			}
		}
	}
}

// TestReadChance: records with changed bytes are as the plain ones.
func TestReadChance(t *testing.T) {
	r := chance(3)
	for range 5000 {
		whole := r.Intn(2) == 0
		b := plainBytes(whole, someLog(r, 8, 5))
		for range r.Intn(3) {
			if len(b) > 0 {
				b[r.Intn(len(b))] = byte(r.Intn(256)) >> r.Intn(8)
			}
		}
		checkRead(t, whole, b)
		checkRead(t, !whole, b)
	}
}

// TestReadBeyond: Read asks neither for how many records there are nor for what they weigh.
func TestReadBeyond(t *testing.T) {
	for _, l := range [][]api.Record{same(20001, api.Record{}), same(300, api.Record{Source: x(4000), Text: x(4000)})} {
		for _, whole := range []bool{false, true} {
			if got, e := Read(whole, Bytes(whole, l...)); e != api.OK || !slices.Equal(got, l) {
				t.Errorf("whole %v, %d records: %d, error %d", whole, len(l), len(got), e)
			}
		}
	}
}

// P17.4

func TestGroupsByHand(t *testing.T) {
	six := api.Record{Time: 300, Level: 2, Source: "db", Text: "go"} // of six bytes, or nine, if it is written whole
	two, four := api.Record{}, api.Record{Text: "ab"}
	for _, c := range []struct {
		size  int
		whole bool
		l     []api.Record
		want  []int
	}{
		{1, false, nil, nil},
		{0, true, nil, nil},
		{100, false, []api.Record{six}, []int{1}},
		{6, false, []api.Record{six}, []int{1}},
		{5, false, []api.Record{six}, []int{1}},
		{12, false, same(5, six), []int{2, 2, 1}},
		{11, false, same(5, six), []int{1, 1, 1, 1, 1}},
		{17, false, same(5, six), []int{2, 2, 1}},
		{18, false, same(5, six), []int{3, 2}},
		{29, false, same(5, six), []int{4, 1}},
		{30, false, same(5, six), []int{5}},
		{17, true, same(5, six), []int{1, 1, 1, 1, 1}},
		{18, true, same(5, six), []int{2, 2, 1}},
		{44, true, same(5, six), []int{4, 1}},
		{45, true, same(5, six), []int{5}},
		{6, false, []api.Record{two, four, two, four}, []int{2, 2}},
		{6, false, []api.Record{four, four, two, two, two}, []int{1, 2, 2}},
		{8, false, []api.Record{two, four, six, two, two}, []int{2, 2, 1}},
		{4, false, []api.Record{two, two, six, two, two}, []int{2, 1, 2}},
		{4, false, []api.Record{two, six, two}, []int{1, 1, 1}},
		{3, false, same(3, two), []int{1, 1, 1}},
		{2, false, same(3, two), []int{1, 1, 1}},
		{1, false, same(3, two), []int{1, 1, 1}},
		{0, false, same(3, two), []int{1, 1, 1}},
		{-9, false, same(3, two), []int{1, 1, 1}},
		{math.MinInt, false, same(3, two), []int{1, 1, 1}},
		{math.MinInt, true, same(3, six), []int{1, 1, 1}},
		{math.MaxInt, false, same(30000, six), []int{30000}},
		{math.MaxInt, true, same(30000, six), []int{30000}},
		{1 << 32, false, same(3, six), []int{3}},
		{257, false, []api.Record{{Text: x(127)}, {Text: x(125)}}, []int{2}},
		{257, false, []api.Record{{Text: x(127)}, {Text: x(126)}}, []int{2}},
		{256, false, []api.Record{{Text: x(127)}, {Text: x(126)}}, []int{1, 1}},
		{259, false, []api.Record{{Text: x(128)}, {Text: x(126)}}, []int{2}},
		{258, false, []api.Record{{Text: x(128)}, {Text: x(126)}}, []int{1, 1}},
		{8, true, []api.Record{{Time: 127}, {Time: 127}}, []int{2}},
		{8, true, []api.Record{{Time: 127}, {Time: 128}}, []int{1, 1}},
		{9, true, []api.Record{{Time: 127}, {Time: 128}}, []int{2}},
		{4, false, []api.Record{{Time: 127}, {Time: 128}}, []int{2}},
		{8010, false, []api.Record{{Source: x(4001), Text: x(4001)}, {}, {}}, []int{3}},
	} {
		if g := Groups(c.size, c.whole, c.l...); !slices.Equal(g, c.want) {
			t.Errorf("groups of %d, whole %v, %d records: %d, not %d", c.size, c.whole, len(c.l), short(g), c.want)
		}
	}
}

// groupSizes are sizes of groups, wrong ones, small ones and great ones.
var groupSizes = []int{math.MinInt, -1 << 32, -1, 0, 1, 2, 3, 4, 5, 8, 16, 100, 127, 128, 1000, 8004, 32768, math.MaxInt}

func TestGroupsAll(t *testing.T) {
	for _, l := range logs() {
		l = l[:min(len(l), 300)]
		for _, size := range groupSizes {
			for _, whole := range []bool{false, true} {
				if g := Groups(size, whole, l...); !slices.Equal(g, plainGroups(size, whole, l)) {
					t.Fatalf("groups of %d, whole %v, %d records: %d, not %d", size, whole, len(l), short(g), short(plainGroups(size, whole, l)))
				}
			}
		}
	}
}

// P17.5

func TestColumnsByHand(t *testing.T) {
	for _, c := range []struct {
		l    []api.Record
		want string
	}{
		{nil, ""},
		{[]api.Record{{}}, "\x00\x00\x01"},
		{[]api.Record{{Time: 5, Level: 1}, {Time: 3, Level: 1}}, "\x0a\x03\x01\x02"},
		{[]api.Record{{Time: 5, Level: 1, Source: "db", Text: "go"}, {Time: 3, Level: 2}}, "\x0a\x03\x01\x01\x02\x01"},
		{ofTimes(63, 127, 62), "\x7e\x80\x01\x81\x01\x00\x03"},
		{ofTimes(math.MaxUint64, 0, math.MaxUint64), "\x01\x02\x01\x00\x03"},
		{ofTimes(1 << 63), most + "\x00\x01"},
		{ofTimes(1<<63-1, 1<<63), "\xfe" + strings.Repeat("\xff", 8) + "\x01\x02\x00\x02"},
		{ofTimes(1<<63+1, 1), "\xfd" + strings.Repeat("\xff", 8) + "\x01" + most + "\x00\x02"},
		{ofLevels(0, 0, 255, 255, 255, 0), "\x00\x00\x00\x00\x00\x00\x00\x02\xff\x03\x00\x01"},
		{ofLevels(1, 2, 1, 2), "\x00\x00\x00\x00\x01\x01\x02\x01\x01\x01\x02\x01"},
		{same(128, api.Record{Level: 9}), strings.Repeat("\x00", 128) + "\x09\x80\x01"},
		{same(20000, api.Record{Level: 9}), strings.Repeat("\x00", 20000) + "\x09\xa0\x9c\x01"},
		{same(20001, api.Record{Level: 9}), strings.Repeat("\x00", 20001) + "\x09\xa1\x9c\x01"},
	} {
		if b := Columns(c.l...); string(b) != c.want {
			t.Errorf("%d records: %q, not %q", len(c.l), short(b), short([]byte(c.want)))
		}
	}
}

func TestColumnsAll(t *testing.T) {
	for _, l := range logs() {
		if b := Columns(l...); !bytes.Equal(b, plainColumns(l)) {
			t.Fatalf("%d records: %q, not %q", len(l), short(b), short(plainColumns(l)))
		}
	}
}

func TestReadColumnsByHand(t *testing.T) {
	for _, c := range []struct {
		n      int
		b      string
		times  []uint64
		levels []uint8
		long   int
	}{
		{0, "", nil, nil, 0},
		{0, "\x80\x00\xff", nil, nil, 0},
		{1, "\x00\x00\x01", []uint64{0}, []uint8{0}, 3},
		{2, "\x0a\x03\x01\x02", []uint64{5, 3}, []uint8{1, 1}, 4},
		{2, "\x0a\x03\x01\x02\x01\x01", []uint64{5, 3}, []uint8{1, 1}, 4},
		{2, "\x0a\x03\x01\x01\x02\x01\x80", []uint64{5, 3}, []uint8{1, 2}, 6},
		{1, "\x01\xff\x01\x00", []uint64{math.MaxUint64}, []uint8{255}, 3},
		{2, most + most + "\x00\x02", []uint64{1 << 63, 0}, []uint8{0, 0}, 22},
		{3, "\x01\x02\x01\x05\x01\x06\x01\x05\x01", []uint64{math.MaxUint64, 0, math.MaxUint64}, []uint8{5, 6, 5}, 9},
	} {
		times, levels, long, e := ReadColumns(c.n, []byte(c.b))
		if e != api.OK || long != c.long || !slices.Equal(times, c.times) || !slices.Equal(levels, c.levels) {
			t.Errorf("%d records, %q: %v, %v, %d, error %d", c.n, c.b, times, levels, long, e)
		}
	}
}

func TestReadColumnsRefuses(t *testing.T) {
	for _, c := range []struct {
		what string
		n    int
		b    string
		e    api.Errno
	}{
		{"no times", 1, "", api.ErrShort},
		{"one time of two", 2, "\x00", api.ErrShort},
		{"a time that goes on", 1, "\x80", api.ErrShort},
		{"a second time that goes on", 2, "\x00" + many, api.ErrShort},
		{"a time of two bytes that is 0", 1, "\x80\x00\x01\x01", api.ErrForm},
		{"a time whose tenth byte is 2", 1, many + "\x02\x01\x01", api.ErrForm},
		{"a second time of two bytes that is 1", 2, "\x00\x81\x00\x01\x02", api.ErrForm},
		{"a first time of no form, the second one not there", 2, "\x80\x00", api.ErrForm},
		{"a first time not there whole", 2, "\x80", api.ErrShort},

		{"no level", 1, "\x00", api.ErrShort},
		{"no how many", 1, "\x00\x05", api.ErrShort},
		{"a how many that goes on", 1, "\x00\x05\x81", api.ErrShort},
		{"a how many of two bytes that is 1", 1, "\x00\x05\x81\x00", api.ErrForm},
		{"a how many of two bytes that is 0", 1, "\x00\x05\x80\x00", api.ErrForm},
		{"a how many whose tenth byte is 2", 1, "\x00\x05" + many + "\x02", api.ErrForm},
		{"the greatest how many", 1, "\x00\x05" + most, api.ErrLimit},
		{"a how many of 2^63", 1, "\x00\x05" + strings.Repeat("\x80", 9) + "\x01", api.ErrLimit},
		{"a how many that is 1 in its lowest 32 bits", 1, "\x00\x05\x81\x80\x80\x80\x10", api.ErrLimit},
		{"one more than there are", 1, "\x00\x05\x02", api.ErrLimit},
		{"one more than are left", 3, "\x00\x00\x00\x05\x02\x06\x02", api.ErrLimit},
		{"as many as there are, though one is left", 3, "\x00\x00\x00\x05\x02\x06\x03", api.ErrLimit},
		{"more than are left, of the level ahead", 3, "\x00\x00\x00\x05\x02\x05\x02", api.ErrLimit},
		{"none", 1, "\x00\x05\x00", api.ErrForm},
		{"none, and more behind it", 1, "\x00\x05\x00\x06\x01", api.ErrForm},
		{"none of the second level", 2, "\x00\x00\x05\x01\x06\x00", api.ErrForm},
		{"none of the level ahead", 2, "\x00\x00\x05\x01\x05\x00", api.ErrForm},
		{"the level ahead", 2, "\x00\x00\x05\x01\x05\x01", api.ErrForm},
		{"the level ahead, and no how many", 2, "\x00\x00\x05\x01\x05", api.ErrShort},
		{"the level ahead, which is 0", 2, "\x00\x00\x00\x01\x00\x01", api.ErrForm},
		{"the level ahead, the third row", 3, "\x00\x00\x00\x05\x01\x06\x01\x06\x01", api.ErrForm},
		{"no second row", 2, "\x00\x00\x05\x01", api.ErrShort},
		{"no third row", 4, "\x00\x00\x00\x00\x05\x02\x06\x01", api.ErrShort},
		{"a fault of a first row, and one of a second", 2, "\x00\x00\x05\x03\x06\x00", api.ErrLimit},
	} {
		for _, behind := range []string{"", "\x07\x01"} {
			if behind != "" && c.e == api.ErrShort {
				continue // there is more
			}
			if e := checkReadColumns(t, c.n, []byte(c.b+behind)); e != c.e {
				t.Errorf("%s: %d records, %q: error %d, not %d", c.what, c.n, c.b+behind, e, c.e)
			}
		}
	}
}

func TestReadColumnsWrongN(t *testing.T) {
	for _, n := range []int{math.MinInt, -1 << 32, -20000, -2, -1, 20001, 20002, 1 << 16, 1 << 32, 1<<32 + 1, math.MaxInt} {
		for _, b := range []string{"", "\x80\x00", "\x00\x00\x01", "\x0a\x03\x01\x02"} {
			if e := checkReadColumns(t, n, []byte(b)); e != api.ErrArg {
				t.Errorf("%d records, %q: error %d", n, b, e)
			}
		}
	}
}

// TestReadColumnsMost: as many records as may be are read, also where each takes as many bytes as may be; of one more there is ErrArg.
func TestReadColumnsMost(t *testing.T) {
	alike, unlike := same(20000, api.Record{Level: 3}), make([]api.Record, 20000)
	for i := range unlike {
		unlike[i] = api.Record{Time: uint64(i%2) << 63, Level: uint8(i)}
	}
	for _, l := range [][]api.Record{alike, unlike} {
		b := plainColumns(l)
		for _, behind := range []int{0, 1, 1 << 20} {
			if e := checkReadColumns(t, len(l), append(slices.Clone(b), make([]byte, behind)...)); e != api.OK {
				t.Errorf("%d bytes behind: error %d", behind, e)
			}
		}
		if e := checkReadColumns(t, len(l)+1, b); e != api.ErrArg {
			t.Errorf("one more: error %d", e)
		}
		if e := checkReadColumns(t, len(l), b[:len(b)-1]); e != api.ErrShort {
			t.Errorf("a byte less: error %d", e)
		}
	}
}

// TestReadColumnsAtTheirEnd: a fault in the last number that columns may have is told as it is, however little stands behind it.
func TestReadColumnsAtTheirEnd(t *testing.T) {
	for n := 1; n < 5; n++ {
		head := strings.Repeat(most, n)
		for i := range n - 1 {
			head += string([]byte{byte(i), 1})
		}
		for behind, want := range map[string]api.Errno{many: api.ErrShort, many + "\x02": api.ErrForm, many + "\x81\x01": api.ErrForm, most: api.ErrLimit, "\x00": api.ErrForm, "\x01": api.OK, "\x02": api.ErrLimit} {
			if e := checkReadColumns(t, n, []byte(head+"\xff"+behind)); e != want {
				t.Errorf("%d records, %q: error %d, not %d", n, behind, e, want)
			}
		}
	}
}

// TestReadColumnsSmall: all rows of few bytes are as the plain ones.
func TestReadColumnsSmall(t *testing.T) {
	told := map[api.Errno]int{}
	for n := range 8 {
		each(n, "\x00\x01\x02\x80", nil, func(b []byte) {
			for many := range 4 {
				told[checkReadColumns(t, many, b)]++
			}
		})
	}
	if told[api.OK] < 100 || told[api.ErrShort] < 100 || told[api.ErrForm] < 100 || told[api.ErrLimit] < 100 || len(told) != 4 {
		t.Error("too few of an error", told)
	}
}

// TestReadColumnsCut: columns that are cut are short.
func TestReadColumnsCut(t *testing.T) {
	r := chance(4)
	for range 200 {
		l := someLog(r, 10, 0)
		b := Columns(l...)
		for n := range b {
			if e := checkReadColumns(t, len(l), b[:n]); e != api.ErrShort {
				t.Fatalf("%d of %d bytes: error %d", n, len(b), e)
			}
		}
	}
}

// TestReadColumnsChance: columns with changed bytes, and of other counts, are as the plain ones.
func TestReadColumnsChance(t *testing.T) {
	r := chance(5)
	for range 10000 {
		l := someLog(r, 12, 0)
		b := plainColumns(l)
		for range r.Intn(3) {
			if len(b) > 0 {
				b[r.Intn(len(b))] = byte(r.Intn(256)) >> r.Intn(8)
			}
		}
		checkReadColumns(t, len(l), b)
		checkReadColumns(t, r.Intn(15), b)
	}
}

// P17.6

func TestRecordsThereAndBack(t *testing.T) {
	for _, l := range logs() {
		got, e := Read(true, Bytes(true, l...))
		if e != api.OK || !slices.Equal(got, l) {
			t.Fatalf("whole, %d records: %d, error %d", len(l), len(got), e)
		}
		got, e = Read(false, Bytes(false, l...))
		for i := range got {
			if got[i].Time != 0 || got[i].Level != 0 {
				t.Fatalf("a time, or a level, from nowhere: %v", got[i])
			}
			got[i].Time, got[i].Level = l[i].Time, l[i].Level
		}
		if e != api.OK || !slices.Equal(got, l) {
			t.Fatalf("%d records: %d, error %d", len(l), len(got), e)
		}
	}
}

func TestColumnsThereAndBack(t *testing.T) {
	for _, l := range logs() {
		if len(l) > api.MaxRecords {
			continue
		}
		b := Columns(l...)
		for _, behind := range [][]byte{nil, {0}, {255, 1, 2}, b} {
			times, levels, long, e := ReadColumns(len(l), slices.Concat(b, behind))
			if e != api.OK || long != len(b) || len(times) != len(l) || len(levels) != len(l) {
				t.Fatalf("%d records, %d bytes behind: %d, %d, %d of %d bytes, error %d", len(l), len(behind), len(times), len(levels), long, len(b), e)
			}
			for i, r := range l {
				if times[i] != r.Time || levels[i] != r.Level {
					t.Fatalf("the record %d of %d: %d, %d, not %d, %d", i, len(l), times[i], levels[i], r.Time, r.Level)
				}
			}
		}
	}
}

// TestGroupsHold: all groups together have all records, each at least one; none of several is beyond the size, and none could have had one more.
func TestGroupsHold(t *testing.T) {
	for _, l := range logs() {
		for _, size := range groupSizes {
			for _, whole := range []bool{false, true} {
				left := l
				for _, n := range Groups(size, whole, l...) {
					if n < 1 || n > len(left) {
						t.Fatalf("groups of %d, whole %v: %d of %d records left", size, whole, n, len(left))
					}
					if n > 1 && len(Bytes(whole, left[:n]...)) > size {
						t.Fatalf("a group of %d, whole %v: %d records have more", size, whole, n)
					}
					if n < len(left) && len(Bytes(whole, left[:n+1]...)) <= size {
						t.Fatalf("a group of %d, whole %v: %d records, though one more fits", size, whole, n)
					}
					left = left[n:]
				}
				if len(left) != 0 {
					t.Fatalf("groups of %d, whole %v: %d of %d records are in none", size, whole, len(left), len(l))
				}
			}
		}
	}
}

// What holds everywhere

// TestLogsStay: logs that are handed in stay, their spare room, too; answers are apart.
func TestLogsStay(t *testing.T) {
	for _, l := range edgeLogs() {
		roomy := slices.Concat(l, []api.Record{{Time: 1, Level: 2, Source: "spare", Text: "room"}})
		before := slices.Clone(roomy)
		given := roomy[:len(l)]
		whole, half, columns, groups := Bytes(true, given...), Bytes(false, given...), Columns(given...), Groups(20, true, given...)
		for _, b := range [][]byte{Bytes(true, given...), Bytes(false, given...), Columns(given...)} {
			clear(b[:cap(b)])
		}
		other := Groups(20, true, given...)
		clear(other[:cap(other)])
		Check(given...)
		Weight(given...)
		if !slices.Equal(roomy, before) {
			t.Fatal("a log is changed")
		}
		clear(roomy)
		if !bytes.Equal(whole, plainBytes(true, l)) || !bytes.Equal(half, plainBytes(false, l)) || !bytes.Equal(columns, plainColumns(l)) || len(l) < 300 && !slices.Equal(groups, plainGroups(20, true, l)) {
			t.Fatal("answers hang together with logs, or with others")
		}
	}
}

// TestBytesStay: bytes that are handed in stay, their spare room, too, and aren't kept; answers are apart.
func TestBytesStay(t *testing.T) {
	r := chance(6)
	for range 200 {
		l := someLog(r, 10, 10)
		roomy := append(Bytes(true, l...), "spare room"...)
		before := slices.Clone(roomy)
		n := len(roomy) - len("spare room")
		got, _ := Read(true, roomy[:n])
		other, _ := Read(true, roomy[:n])
		if !bytes.Equal(roomy, before) {
			t.Fatal("Read has changed its bytes")
		}
		clear(roomy)
		clear(other[:cap(other)])
		if !slices.Equal(got, l) {
			t.Fatal("records hang together with bytes, or with others")
		}
		roomy = append(Columns(l...), "spare room"...)
		before = slices.Clone(roomy)
		times, levels, _, _ := ReadColumns(len(l), roomy)
		otherTimes, otherLevels, _, _ := ReadColumns(len(l), roomy)
		if !bytes.Equal(roomy, before) {
			t.Fatal("ReadColumns has changed its bytes")
		}
		clear(roomy)
		clear(otherTimes[:cap(otherTimes)])
		clear(otherLevels[:cap(otherLevels)])
		for i := range l {
			if times[i] != l[i].Time || levels[i] != l[i].Level {
				t.Fatal("columns hang together with bytes, or with others")
			}
		}
	}
}
