package opts

import (
	"bytes"
	"math"
	"slices"
	"strings"
	"testing"

	"firkin/api"
)

// Options that may be for the versions 1, 2 and 3.
func first() api.Opts  { return api.Opts{Block: 64} }
func second() api.Opts { return api.Opts{Block: 64, Bucket: 8} }
func third() api.Opts {
	return api.Opts{Block: 64, Bucket: 8, Data: 10, Parity: 3, Chunk: 100}
}

// of tells options that may be for the version.
func of(version int) api.Opts { return []api.Opts{first(), second(), third()}[version-1] }

// noVersions tells numbers of which there is no version, those among them that look like one in their lowest bits.
func noVersions() []int {
	return []int{0, 4, 5, -1, -2, -3, 16, 255, 256, 257, 258, 259, 1<<16 + 1, 1<<32 + 1, 1<<32 + 2, 1<<32 + 3, math.MaxInt, math.MinInt, math.MinInt + 1}
}

// edges tells numbers at and beside all bounds that the chapter names, and far ones.
func edges() []int {
	return []int{math.MinInt, -1, 0, 1, 2, 15, 16, 17, 63, 64, 65, 253, 254, 255, 256, 4095, 4096, 4097, 32767, 32768, 32769, math.MaxInt}
}

// in tells whether x is from a to b.
func in(x, a, b int) bool { return a <= x && x <= b }

// plainCheck tells what the chapter's words tell of options, each version by itself.
func plainCheck(version int, o api.Opts) api.Errno {
	ok := in(o.Block, 16, 32768)
	noBucket, bucket := o.Bucket == 0, in(o.Bucket, 1, 64)
	noStripes := o.Data == 0 && o.Parity == 0 && o.Chunk == 0
	stripes := in(o.Data, 1, 255) && in(o.Parity, 0, 255) && in(o.Data+o.Parity, 1, 255) && in(o.Chunk, 1, 4096)
	if version == 1 {
		ok = ok && noBucket && noStripes
	} else if version == 2 {
		ok = ok && bucket && noStripes
	} else if version == 3 {
		ok = ok && bucket && stripes
	} else {
		return api.ErrVersion
	}
	if !ok {
		return api.ErrOpts
	}
	return api.OK
}

// wantCheck sees what Check tells of options, plain or not.
func wantCheck(t *testing.T, version int, o api.Opts, want api.Errno) {
	t.Helper()
	for _, o.Plain = range []bool{false, true} {
		if e := Check(version, o); e != want {
			t.Errorf("version %d, %+v: error %d, not %d", version, o, e, want)
		}
	}
}

// eachOpts hands on options of all edges.
func eachOpts(hand func(o api.Opts)) {
	buckets, chunks := []int{math.MinInt, -1, 0, 1, 2, 64, 65, math.MaxInt}, []int{math.MinInt, -1, 0, 1, 2, 4096, 4097, math.MaxInt}
	parts := []int{math.MinInt, -1, 0, 1, 2, 127, 128, 254, 255, 256, math.MaxInt}
	for _, block := range []int{math.MinInt, 0, 15, 16, 17, 32768, 32769, math.MaxInt} {
		for _, bucket := range buckets {
			for _, data := range parts {
				for _, parity := range parts {
					for _, chunk := range chunks {
						hand(api.Opts{Block: block, Bucket: bucket, Data: data, Parity: parity, Chunk: chunk})
						hand(api.Opts{Block: block, Plain: true, Bucket: bucket, Data: data, Parity: parity, Chunk: chunk})
					}
				}
			}
		}
	}
}

// P19.1

func TestCheckByHand(t *testing.T) {
	for _, c := range []struct {
		version int
		o       api.Opts
		want    api.Errno
	}{
		{1, api.Opts{}, api.ErrOpts},
		{1, api.Opts{Block: 15}, api.ErrOpts},
		{1, api.Opts{Block: 16}, api.OK},
		{1, api.Opts{Block: 1024}, api.OK},
		{1, api.Opts{Block: 32768}, api.OK},
		{1, api.Opts{Block: 32769}, api.ErrOpts},
		{1, api.Opts{Block: 16, Bucket: 1}, api.ErrOpts},
		{1, api.Opts{Block: 16, Bucket: -1}, api.ErrOpts},
		{1, api.Opts{Block: 16, Data: 1}, api.ErrOpts},
		{1, api.Opts{Block: 16, Parity: 1}, api.ErrOpts},
		{1, api.Opts{Block: 16, Chunk: 1}, api.ErrOpts},
		{1, second(), api.ErrOpts},
		{1, third(), api.ErrOpts},
		{2, api.Opts{}, api.ErrOpts},
		{2, first(), api.ErrOpts},
		{2, api.Opts{Bucket: 1}, api.ErrOpts},
		{2, api.Opts{Block: 15, Bucket: 1}, api.ErrOpts},
		{2, api.Opts{Block: 16, Bucket: 1}, api.OK},
		{2, api.Opts{Block: 32768, Bucket: 64}, api.OK},
		{2, api.Opts{Block: 32769, Bucket: 64}, api.ErrOpts},
		{2, api.Opts{Block: 32768, Bucket: 65}, api.ErrOpts},
		{2, api.Opts{Block: 16, Bucket: 1, Data: 1}, api.ErrOpts},
		{2, api.Opts{Block: 16, Bucket: 1, Parity: 1}, api.ErrOpts},
		{2, api.Opts{Block: 16, Bucket: 1, Chunk: 1}, api.ErrOpts},
		{2, third(), api.ErrOpts},
		{3, api.Opts{}, api.ErrOpts},
		{3, first(), api.ErrOpts},
		{3, second(), api.ErrOpts},
		{3, third(), api.OK},
		{3, api.Opts{Block: 16, Bucket: 1, Data: 1, Chunk: 1}, api.OK},
		{3, api.Opts{Block: 32768, Bucket: 64, Data: 254, Parity: 1, Chunk: 4096}, api.OK},
		{3, api.Opts{Block: 32768, Bucket: 64, Data: 1, Parity: 254, Chunk: 4096}, api.OK},
		{3, api.Opts{Block: 32768, Bucket: 64, Data: 255, Chunk: 4096}, api.OK},
		{3, api.Opts{Block: 15, Bucket: 1, Data: 1, Chunk: 1}, api.ErrOpts},
		{3, api.Opts{Block: 32769, Bucket: 1, Data: 1, Chunk: 1}, api.ErrOpts},
		{3, api.Opts{Block: 16, Data: 1, Chunk: 1}, api.ErrOpts},
		{3, api.Opts{Block: 16, Bucket: 65, Data: 1, Chunk: 1}, api.ErrOpts},
		{3, api.Opts{Block: 16, Bucket: 1, Parity: 1, Chunk: 1}, api.ErrOpts},
		{3, api.Opts{Block: 16, Bucket: 1, Data: 1, Parity: -1, Chunk: 1}, api.ErrOpts},
		{3, api.Opts{Block: 16, Bucket: 1, Data: 256, Parity: -1, Chunk: 1}, api.ErrOpts},
		{3, api.Opts{Block: 16, Bucket: 1, Data: 0, Parity: 255, Chunk: 1}, api.ErrOpts},
		{3, api.Opts{Block: 16, Bucket: 1, Data: 1, Parity: 255, Chunk: 1}, api.ErrOpts},
		{3, api.Opts{Block: 16, Bucket: 1, Data: 128, Parity: 128, Chunk: 1}, api.ErrOpts},
		{3, api.Opts{Block: 16, Bucket: 1, Data: 1}, api.ErrOpts},
		{3, api.Opts{Block: 16, Bucket: 1, Data: 1, Chunk: 4097}, api.ErrOpts},
	} {
		wantCheck(t, c.version, c.o, c.want)
	}
}

// TestCheckOneByOne: of options that may be, each one is put to all edges.
func TestCheckOneByOne(t *testing.T) {
	for version := 1; version <= 3; version++ {
		wantCheck(t, version, of(version), api.OK)
		for _, x := range edges() {
			for _, change := range []func(o *api.Opts){
				func(o *api.Opts) { o.Block = x },
				func(o *api.Opts) { o.Bucket = x },
				func(o *api.Opts) { o.Data = x },
				func(o *api.Opts) { o.Parity = x },
				func(o *api.Opts) { o.Chunk = x },
			} {
				o := of(version)
				change(&o)
				wantCheck(t, version, o, plainCheck(version, o))
			}
		}
	}
}

// TestCheckRanges: each number of the ranges that the chapter names, and those beside them.
func TestCheckRanges(t *testing.T) {
	for x := -3; x <= 33000; x++ {
		for version := 1; version <= 3; version++ {
			o := of(version)
			o.Block = x
			wantCheck(t, version, o, plainCheck(version, o))
			o = of(version)
			o.Bucket = x
			wantCheck(t, version, o, plainCheck(version, o))
			o = of(version)
			o.Chunk = x
			wantCheck(t, version, o, plainCheck(version, o))
		}
	}
}

func TestCheckDataAndParity(t *testing.T) {
	for data := -3; data <= 260; data++ {
		for parity := -3; parity <= 260; parity++ {
			o := third()
			o.Data, o.Parity = data, parity
			wantCheck(t, 3, o, plainCheck(3, o))
		}
	}
}

// TestCheckFarParts: data and parity that together are more than an int has room for, so that they seem to be few.
func TestCheckFarParts(t *testing.T) {
	far := []int{math.MinInt, math.MinInt + 1, math.MinInt + 255, math.MinInt / 2, math.MaxInt / 2, math.MaxInt/2 + 1, math.MaxInt/2 + 100, math.MaxInt - 255, math.MaxInt - 1, math.MaxInt, 1 << 32, 1<<32 + 4, -1 << 32}
	for _, a := range far {
		for _, b := range slices.Concat(far, edges()) {
			for _, pair := range [][2]int{{a, b}, {b, a}} {
				o := third()
				o.Data, o.Parity = pair[0], pair[1]
				wantCheck(t, 3, o, api.ErrOpts)
			}
		}
	}
}

func TestCheckNoVersion(t *testing.T) {
	for _, version := range noVersions() {
		for _, o := range []api.Opts{{}, first(), second(), third(), {Block: -1, Bucket: -1, Data: -1, Parity: -1, Chunk: -1}} {
			wantCheck(t, version, o, api.ErrVersion)
		}
	}
}

func TestCheckAll(t *testing.T) {
	eachOpts(func(o api.Opts) {
		for version := 0; version <= 4; version++ {
			if e, want := Check(version, o), plainCheck(version, o); e != want {
				t.Fatalf("version %d, %+v: error %d, not %d", version, o, e, want)
			}
		}
	})
}

// P19.2

// wantGrow sees what Grow tells of options, plain or not.
func wantGrow(t *testing.T, version int, o, want api.Opts, wantE api.Errno) {
	t.Helper()
	for _, plain := range []bool{false, true} {
		o.Plain, want.Plain = plain, plain && wantE == api.OK
		if grown, e := Grow(version, o); grown != want || e != wantE {
			t.Errorf("version %d, %+v: %+v, error %d; wanted %+v, %d", version, o, grown, e, want, wantE)
		}
	}
}

func TestGrowByHand(t *testing.T) {
	for _, block := range []int{16, 17, 64, 1000, 1024, 32767, 32768} {
		one, two := api.Opts{Block: block}, api.Opts{Block: block, Bucket: 16}
		wantGrow(t, 1, one, two, api.OK)
		for _, bucket := range []int{1, 2, 16, 63, 64} {
			two.Bucket = bucket
			wantGrow(t, 2, two, api.Opts{Block: block, Bucket: bucket, Data: 4, Parity: 2, Chunk: 64}, api.OK)
		}
	}
}

func TestGrowRefuses(t *testing.T) {
	none := api.Opts{}
	for _, version := range noVersions() {
		for _, o := range []api.Opts{{}, first(), second(), third()} {
			wantGrow(t, version, o, none, api.ErrVersion)
		}
	}
	wantGrow(t, 1, none, none, api.ErrOpts)
	wantGrow(t, 1, api.Opts{Block: 15}, none, api.ErrOpts)
	wantGrow(t, 1, second(), none, api.ErrOpts)
	wantGrow(t, 1, third(), none, api.ErrOpts)
	wantGrow(t, 2, none, none, api.ErrOpts)
	wantGrow(t, 2, first(), none, api.ErrOpts)
	wantGrow(t, 2, api.Opts{Block: 32769, Bucket: 16}, none, api.ErrOpts)
	wantGrow(t, 2, third(), none, api.ErrOpts)
}

// TestGrowOfTheLast: options that may be for version 3 have no next one; of others Check's error is named first.
func TestGrowOfTheLast(t *testing.T) {
	none := api.Opts{}
	wantGrow(t, 3, third(), none, api.ErrVersion)
	wantGrow(t, 3, api.Opts{Block: 16, Bucket: 1, Data: 1, Chunk: 1}, none, api.ErrVersion)
	wantGrow(t, 3, none, none, api.ErrOpts)
	wantGrow(t, 3, first(), none, api.ErrOpts)
	wantGrow(t, 3, second(), none, api.ErrOpts)
	wantGrow(t, 3, api.Opts{Block: 16, Bucket: 1, Data: 256, Chunk: 1}, none, api.ErrOpts)
}

// TestGrowAll: what is refused has Check's error, and nothing beside it.
func TestGrowAll(t *testing.T) {
	eachOpts(func(o api.Opts) {
		for version := 0; version <= 4; version++ {
			grown, e := Grow(version, o)
			want := plainCheck(version, o)
			if version == 3 && want == api.OK {
				want = api.ErrVersion
			}
			if e != want || e != api.OK && grown != (api.Opts{}) {
				t.Fatalf("version %d, %+v: %+v, error %d, not %d", version, o, grown, e, want)
			}
		}
	})
}

// P19.3

func TestDefault(t *testing.T) {
	for version, want := range map[int]api.Opts{
		1: {Block: 1024},
		2: {Block: 1024, Bucket: 16},
		3: {Block: 1024, Bucket: 16, Data: 4, Parity: 2, Chunk: 64},
	} {
		if o, e := Default(version); o != want || e != api.OK {
			t.Errorf("version %d: %+v, error %d", version, o, e)
		}
	}
	for _, version := range noVersions() {
		if o, e := Default(version); o != (api.Opts{}) || e != api.ErrVersion {
			t.Errorf("version %d: %+v, error %d", version, o, e)
		}
	}
}

// P19.4

func TestMark(t *testing.T) {
	for version, want := range map[int]string{1: "FIRK\x01", 2: "FIRK\x02", 3: "FIRK\x03"} {
		if b, e := Mark(version); string(b) != want || e != api.OK {
			t.Errorf("version %d: %q, error %d", version, b, e)
		}
	}
	for _, version := range noVersions() {
		if b, e := Mark(version); len(b) != 0 || e != api.ErrVersion {
			t.Errorf("version %d: %q, error %d", version, b, e)
		}
	}
}

// TestMarkIsNew: a mark shares no memory with another one, its spare room neither.
func TestMarkIsNew(t *testing.T) {
	b, _ := Mark(2)
	other, _ := Mark(2)
	clear(b[:cap(b)])
	again, e := Mark(2)
	if string(other) != "FIRK\x02" || string(again) != "FIRK\x02" || e != api.OK {
		t.Errorf("%q, %q, error %d", other, again, e)
	}
}

// wantMarked sees what Marked tells of bytes, which stay as they are, those behind them, too.
func wantMarked(t *testing.T, s string, want int, wantE api.Errno) {
	t.Helper()
	room := []byte(s + "FIRK\x01")
	version, e := Marked(room[:len(s)])
	if version != want || e != wantE {
		t.Errorf("%.40q: version %d, error %d; wanted %d, %d", s, version, e, want, wantE)
	}
	if string(room) != s+"FIRK\x01" {
		t.Errorf("%.40q: is changed to %.50q", s, room)
	}
}

func TestMarkedByHand(t *testing.T) {
	for version, fifth := range []string{"", "\x01", "\x02", "\x03"} {
		for _, behind := range []string{"", "x", "\x00", "FIRK\x03", strings.Repeat("y", 1<<20)} {
			if version > 0 {
				wantMarked(t, "FIRK"+fifth+behind, version, api.OK)
			}
		}
	}
	for _, s := range []string{"", "F", "FI", "FIR", "FIRK", "x", "xxxx", "FIRk", "\x00\x00\x00\x00", "\x01", "IRK\x01"} {
		wantMarked(t, s, 0, api.ErrShort)
	}
	for _, s := range []string{"xxxxx", "FIRk\x01", "fIRK\x01", "firk\x01", "FIR\x01\x01", "FIRRK\x01", "\x01FIRK", " FIRK\x01", "KRIF\x01", "IRK\x01\x01", "\x00\x00\x00\x00\x00", "FIRk\x00", "xxxx\x04", strings.Repeat("x", 1<<20)} {
		wantMarked(t, s, 0, api.ErrMagic)
	}
	for _, s := range []string{"FIRK\x00", "FIRK\x04", "FIRK\x05\x01", "FIRK1", "FIRK2x", "FIRK3", "FIRK\xff", "FIRKFIRK\x01", "FIRK\x81", "FIRK\x00\x01"} {
		wantMarked(t, s, 0, api.ErrVersion)
	}
	if version, e := Marked(nil); version != 0 || e != api.ErrShort {
		t.Errorf("nil: version %d, error %d", version, e)
	}
}

// TestMarkedEachByte: each of the five bytes put to all that it may be.
func TestMarkedEachByte(t *testing.T) {
	for version := 1; version <= 3; version++ {
		for at := range 5 {
			for x := range 256 {
				b := []byte("FIRK" + string(rune(version)) + "z")
				was := b[at]
				b[at] = byte(x)
				switch {
				case byte(x) == was:
					wantMarked(t, string(b), version, api.OK)
				case at < 4:
					wantMarked(t, string(b), 0, api.ErrMagic)
				case x < 1 || x > 3:
					wantMarked(t, string(b), 0, api.ErrVersion)
				default:
					wantMarked(t, string(b), x, api.OK)
				}
			}
		}
	}
}

// TestMarkedOfMark: a mark is that of its version, with anything behind it, and of none if it is cut.
func TestMarkedOfMark(t *testing.T) {
	for version := 1; version <= 3; version++ {
		b, _ := Mark(version)
		for _, behind := range [][]byte{nil, {0}, {1, 2, 3}, b} {
			wantMarked(t, string(bytes.Join([][]byte{b, behind}, nil)), version, api.OK)
		}
		for n := range b {
			wantMarked(t, string(b[:n]), 0, api.ErrShort)
		}
	}
}

// P19.5

func TestGrownMayBe(t *testing.T) {
	grew := 0
	eachOpts(func(o api.Opts) {
		for version := 1; version <= 2; version++ {
			grown, e := Grow(version, o)
			if e != api.OK {
				continue
			}
			grew++
			if e := Check(version+1, grown); e != api.OK {
				t.Fatalf("of version %d %+v is grown to %+v: error %d", version, o, grown, e)
			}
			if grown.Block != o.Block || grown.Plain != o.Plain || version == 2 && grown.Bucket != o.Bucket {
				t.Fatalf("of version %d %+v is grown to %+v", version, o, grown)
			}
		}
	})
	if want := 2*3 + 2*3*3; grew != want { // Plain, of Block 16, 17, 32768, of Bucket 1, 2, 64
		t.Errorf("%d options are grown, not %d", grew, want)
	}
}

func TestUsualOnesMayBe(t *testing.T) {
	for version := 1; version <= 3; version++ {
		o, _ := Default(version)
		if e := Check(version, o); e != api.OK {
			t.Errorf("version %d: error %d", version, e)
		}
		if grown, e := Grow(version, o); version < 3 {
			if next, _ := Default(version + 1); grown != next || e != api.OK {
				t.Errorf("version %d: %+v, error %d; the next one's are %+v", version, grown, e, next)
			}
		}
	}
}

func TestOptionsAreForOneVersion(t *testing.T) {
	there := 0
	eachOpts(func(o api.Opts) {
		may := 0
		for version := -1; version <= 5; version++ {
			if Check(version, o) == api.OK {
				may++
			}
		}
		if may > 1 {
			t.Fatalf("%+v may be for %d versions", o, may)
		}
		there += may
	})
	pairs := 0 // of data and parity
	for _, data := range []int{1, 2, 127, 128, 254, 255} {
		for _, parity := range []int{0, 1, 2, 127, 128, 254, 255} {
			if data+parity <= 255 {
				pairs++
			}
		}
	}
	if want := 2*3 + 2*3*3 + 2*3*3*pairs*3; there != want {
		t.Errorf("%d options may be, not %d", there, want)
	}
}
