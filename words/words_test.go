package words

import (
	"bytes"
	"math"
	"math/rand"
	"slices"
	"strings"
	"testing"
	"unsafe"

	"firkin/api"
)

// chance tells numbers that look like chance, the same in each run.
func chance(seed int64) *rand.Rand { return rand.New(rand.NewSource(seed)) }

const (
	largeOnes = "ABCDEFGHIJKLMNOPQRSTUVWXYZ"
	smallOnes = "abcdefghijklmnopqrstuvwxyz"
	allOnes   = smallOnes + largeOnes + "0123456789"
)

// isLetter tells whether a byte is a letter, as the chapter's words tell it.
func isLetter(c byte) bool { return strings.IndexByte(allOnes, c) >= 0 }

// plainSmall tells a text with its large letters made small, and all else as it is.
func plainSmall(s string) string {
	b := []byte(s)
	for i, c := range b {
		if k := strings.IndexByte(largeOnes, c); k >= 0 {
			b[i] = smallOnes[k]
		}
	}
	return string(b)
}

// plainWords tells the words of a text: each longest row of letters, looked for from each byte on.
func plainWords(s string) []string {
	var l []string
	for from := range len(s) {
		if from > 0 && isLetter(s[from-1]) {
			continue
		}
		to := from
		for to < len(s) && isLetter(s[to]) {
			to++
		}
		if to > from {
			l = append(l, plainSmall(s[from:min(to, from+24)]))
		}
	}
	return l
}

// plainOne tells the word that a text is.
func plainOne(s string) (string, bool) {
	if s == "" || len(s) > 24 {
		return "", false
	}
	for i := range len(s) {
		if !isLetter(s[i]) {
			return "", false
		}
	}
	return plainSmall(s), true
}

// plainTerm tells whether a text is a term.
func plainTerm(s string) bool {
	if len(s) > 0 && s[0] == '@' {
		s = s[1:]
	}
	word, ok := plainOne(s)
	return ok && word == s
}

// plainTerms tells the terms of a record.
func plainTerms(r api.Record) []string {
	var l []string
	for _, word := range plainWords(r.Source) {
		if !slices.Contains(l, "@"+word) {
			l = append(l, "@"+word)
		}
	}
	for _, word := range plainWords(r.Text) {
		if !slices.Contains(l, word) {
			l = append(l, word)
		}
	}
	slices.SortFunc(l, func(a, b string) int { return bytes.Compare([]byte(a), []byte(b)) })
	return l
}

// wantText sees that each call tells of a text what the chapter's words tell.
func wantText(t *testing.T, s string) {
	t.Helper()
	if l, want := Words(s), plainWords(s); !slices.Equal(l, want) {
		t.Fatalf("words of %q: %q; wanted %q", s, l, want)
	}
	word, ok := One(s)
	if want, wantOK := plainOne(s); word != want || ok != wantOK {
		t.Fatalf("one word of %q: %q, %v; wanted %q, %v", s, word, ok, want, wantOK)
	}
	if is, want := Term(s), plainTerm(s); is != want {
		t.Fatalf("is %q a term: %v; wanted %v", s, is, want)
	}
}

// wantTerms sees that Terms tells what the chapter's words tell.
func wantTerms(t *testing.T, r api.Record) {
	t.Helper()
	if l, want := Terms(r), plainTerms(r); !slices.Equal(l, want) {
		t.Fatalf("terms of %+v: %q; wanted %q", r, l, want)
	}
}

// texts tells all texts of at most n of these bytes.
func texts(n int, of string) []string {
	all := []string{""}
	for first, k := 0, 0; k < n; k++ {
		long := len(all)
		for _, s := range all[first:] {
			for i := range len(of) {
				all = append(all, s+of[i:i+1])
			}
		}
		first = long
	}
	return all
}

// someText tells a text of at most n bytes: rows of letters, short and long, and rows of others, which are any bytes, or those beside the letters.
func someText(r *rand.Rand, n int) string {
	var b []byte
	for long := r.Intn(n + 1); len(b) < long; {
		for k := r.Intn([]int{3, 12, 30, 60}[r.Intn(4)]); k > 0; k-- {
			b = append(b, allOnes[r.Intn(len(allOnes))])
		}
		for k := r.Intn(3); k > 0; k-- {
			b = append(b, byte(r.Intn(256)), "@[`{/: "[r.Intn(7)])
		}
	}
	return string(b[:min(len(b), n)])
}

// fewText tells a text of few words that come again, in large and small letters.
func fewText(r *rand.Rand) string {
	var l []string
	for range r.Intn(8) {
		l = append(l, []string{"a", "A", "b", "aB", "Ab", "9", "0a", "@a", "@", "", "zz", "é"}[r.Intn(12)])
	}
	return strings.Join(l, " ")
}

// P15.1

func TestWords(t *testing.T) {
	x24, x25 := strings.Repeat("x", 24), strings.Repeat("x", 25)
	for _, x := range []struct {
		s    string
		want []string
	}{
		{"GET /a-b HTTP 200", []string{"get", "a", "b", "http", "200"}},
		{"", nil},
		{" ", nil},
		{" \t\r\n\x00-_.@", nil},
		{"a", []string{"a"}},
		{"Z", []string{"z"}},
		{"0", []string{"0"}},
		{"a a A a", []string{"a", "a", "a", "a"}},
		{"b a b", []string{"b", "a", "b"}},
		{" a", []string{"a"}},
		{"a ", []string{"a"}},
		{"  a  b  ", []string{"a", "b"}},
		{"a1B2", []string{"a1b2"}},
		{"007", []string{"007"}},
		{"@db1 x", []string{"db1", "x"}},
		{"snake_case it's", []string{"snake", "case", "it", "s"}},
		{allOnes[26:], []string{smallOnes[:24]}},
		{x24, []string{x24}},
		{x25, []string{x24}},
		{x24 + "yz", []string{x24}},
		{x24 + " y", []string{x24, "y"}},
		{x25 + " y", []string{x24, "y"}},
		{x24 + x24 + "-" + x25 + "y", []string{x24, x24}},
		{strings.ToUpper(x25), []string{x24}},
		{"aéb", []string{"a", "b"}},
		{"ÀÉ\u212a\u017fß\u0663\uff21\uff11", nil},
		{"a\xffb\x80c", []string{"a", "b", "c"}},
		{"a\x00b", []string{"a", "b"}},
		{strings.Repeat("x ", 4) + strings.Repeat("9", 1<<20), []string{"x", "x", "x", "x", strings.Repeat("9", 24)}},
	} {
		if l := Words(x.s); !slices.Equal(l, x.want) {
			t.Errorf("words of %q: %q; wanted %q", x.s, l, x.want)
		}
	}
}

// TestBytes: each byte, alone, and ahead of letters, behind and between them.
func TestBytes(t *testing.T) {
	for c := range 256 {
		s := string([]byte{byte(c)})
		want := []string(nil)
		if c >= '0' && c <= '9' || c >= 'a' && c <= 'z' {
			want = []string{s}
		} else if c >= 'A' && c <= 'Z' {
			want = []string{string([]byte{byte(c + 32)})}
		}
		if l := Words(s); !slices.Equal(l, want) {
			t.Errorf("words of the byte %d: %q", c, l)
		}
		word, ok := One(s)
		if ok != (len(want) == 1) || ok && word != want[0] || !ok && word != "" {
			t.Errorf("one word of the byte %d: %q, %v", c, word, ok)
		}
		if is := Term(s); is != (len(want) == 1 && want[0] == s) {
			t.Errorf("is the byte %d a term: %v", c, is)
		}
		for _, s := range []string{s + "aB", "aB" + s, "a" + s + "B", "@" + s, "@a" + s, s + "@a", s + s} {
			wantText(t, s)
			wantTerms(t, api.Record{Source: s, Text: s})
		}
	}
}

// TestLong: rows of letters of each length about 24, alone and beside others.
func TestLong(t *testing.T) {
	for n := range 80 {
		for _, letter := range []string{"x", "X", "7", "xY3"} {
			row := strings.Repeat(letter, n)[:n]
			for _, s := range []string{row, row + " ", " " + row, row + " b", "b " + row, row + "-" + row, row + "b", "@" + row} {
				wantText(t, s)
				wantTerms(t, api.Record{Source: s, Text: s})
			}
		}
	}
}

func TestAllTexts(t *testing.T) {
	for _, s := range texts(6, "aZ9@ \x80") {
		wantText(t, s)
	}
}

func TestChance(t *testing.T) {
	r := chance(1)
	for range 20000 {
		wantText(t, someText(r, 120))
	}
	for range 20 {
		wantText(t, someText(r, 20000))
	}
}

// P15.2

func TestOne(t *testing.T) {
	x24 := strings.Repeat("x", 24)
	for s, want := range map[string]string{
		"a": "a", "A": "a", "Z": "z", "z": "z", "0": "0", "9": "9", "Ab9": "ab9", "DISK": "disk", "disk": "disk",
		x24: x24, strings.ToUpper(x24): x24, largeOnes[:24]: smallOnes[:24], "X" + x24[1:]: x24, x24[1:] + "X": x24,
	} {
		if word, ok := One(s); word != want || !ok {
			t.Errorf("%q: %q, %v", s, word, ok)
		}
	}
	for _, s := range []string{
		"", " ", "@", "-", "a b", "a ", " a", "a-", "-a", "@a", "a@", "a\x00", "\x00", "é", "aé", "\xff", "\u212a", x24 + "x", x24 + " ", " " + x24, x24[1:] + "-", "-" + x24[1:],
		x24[:12] + "_" + x24[13:], largeOnes[:25], strings.Repeat("x", 48), strings.Repeat("x", 256), strings.Repeat("x", 1<<20),
	} {
		if word, ok := One(s); word != "" || ok {
			t.Errorf("%q: %q, %v", s, word, ok)
		}
	}
}

// P15.3

func TestTerm(t *testing.T) {
	x24 := strings.Repeat("x", 24)
	for s, want := range map[string]bool{
		"a": true, "z": true, "0": true, "9": true, "disk": true, "200": true, x24: true,
		"@a": true, "@z": true, "@0": true, "@9": true, "@db1": true, "@" + x24: true,
		"": false, "@": false, "@@": false, "@@a": false, "a@": false, "a@b": false, "@a@": false, "@a@b": false, " @a": false, "@ a": false,
		"A": false, "@A": false, "aB": false, "@aB": false, "aZ": false, "Disk": false, "@Db1": false, strings.ToUpper(x24): false, x24[1:] + "X": false, "@" + x24[1:] + "X": false,
		"a b": false, "a ": false, " a": false, "a-": false, "a*": false, "é": false, "@é": false, "a\x00": false, "\xff": false,
		"x" + x24: false, "@x" + x24: false, "@" + x24 + " ": false, "@@" + x24[1:]: false, strings.Repeat("x", 1<<20): false,
	} {
		if is := Term(s); is != want {
			t.Errorf("%q: %v", s, is)
		}
	}
}

func TestTerms(t *testing.T) {
	x24 := strings.Repeat("x", 24)
	for _, x := range []struct {
		source, text string
		want         []string
	}{
		{"db1", "Disk full, disk", []string{"@db1", "disk", "full"}},
		{"", "", nil},
		{"-", "/ @", nil},
		{"a", "", []string{"@a"}},
		{"", "a", []string{"a"}},
		{"a", "a", []string{"@a", "a"}},
		{"a A a", "A a-a", []string{"@a", "a"}},
		{"@a", "@b", []string{"@a", "b"}},
		{"a", "9 b 0 @c", []string{"0", "9", "@a", "b", "c"}},
		{"9 z 0", "z 9", []string{"9", "@0", "@9", "@z", "z"}},
		{"web db-1", "z y x", []string{"@1", "@db", "@web", "x", "y", "z"}},
		{"", "ab a abc b aa", []string{"a", "aa", "ab", "abc", "b"}},
		{"B a", "B a", []string{"@a", "@b", "a", "b"}},
		{"é", "\xff\x80", nil},
		{x24 + "y", x24 + "z " + x24, []string{"@" + x24, x24}},
		{x24[1:] + " " + x24, "", []string{"@" + x24[1:], "@" + x24}},
	} {
		for _, r := range []api.Record{{}, {Time: math.MaxUint64, Level: 255}} {
			r.Source, r.Text = x.source, x.text
			if l := Terms(r); !slices.Equal(l, x.want) {
				t.Errorf("%+v: %q; wanted %q", r, l, x.want)
			}
		}
	}
}

func TestTermsAllTexts(t *testing.T) {
	all := texts(3, "aB1@ ")
	for _, source := range all {
		for _, text := range all {
			wantTerms(t, api.Record{Source: source, Text: text})
		}
	}
}

func TestTermsChance(t *testing.T) {
	r := chance(2)
	for range 5000 {
		wantTerms(t, api.Record{Time: r.Uint64(), Level: uint8(r.Intn(256)), Source: fewText(r), Text: fewText(r)})
		wantTerms(t, api.Record{Time: r.Uint64(), Level: uint8(r.Intn(256)), Source: someText(r, 60), Text: someText(r, 300)})
	}
}

// TestTermsLong: a text may be far longer than a record of a log has it, with words that all come again, or never.
func TestTermsLong(t *testing.T) {
	if l := Terms(api.Record{Source: strings.Repeat("db ", 1<<18), Text: strings.Repeat("Disk full ", 1<<18)}); !slices.Equal(l, []string{"@db", "disk", "full"}) {
		t.Errorf("%.100q", l)
	}
	var b []byte
	var want []string
	for i := range 1 << 16 {
		word := string([]byte{'a' + byte(i>>12), 'a' + byte(i>>8&15), 'a' + byte(i>>4&15), 'a' + byte(i&15)})
		want = append(want, word)
		b = append(b, word...)
		b = append(b, ' ')
	}
	if l := Terms(api.Record{Text: string(b)}); !slices.Equal(l, want) {
		t.Error(len(l))
	}
}

// P15.4

// TestEachIsOne: each word of a text is a word by itself, which is its own one word, and its one word in a text.
func TestEachIsOne(t *testing.T) {
	r := chance(3)
	for range 5000 {
		for _, word := range Words(someText(r, 200)) {
			if one, ok := One(word); one != word || !ok {
				t.Fatalf("%q: %q, %v", word, one, ok)
			}
			if l := Words(word); !slices.Equal(l, []string{word}) {
				t.Fatalf("words of %q: %q", word, l)
			}
			if !Term(word) || !Term("@"+word) || Term("@@"+word) {
				t.Fatalf("terms of %q", word)
			}
		}
	}
}

// TestLargeAndSmall: words don't care for large and small letters.
func TestLargeAndSmall(t *testing.T) {
	r := chance(4)
	for range 5000 {
		b := []byte(someText(r, 200))
		mixed := slices.Clone(b)
		for i, c := range mixed {
			if r.Intn(2) == 0 && c >= 'a' && c <= 'z' {
				mixed[i] -= 32
			} else if r.Intn(2) == 0 && c >= 'A' && c <= 'Z' {
				mixed[i] += 32
			}
		}
		s, other := string(b), string(mixed)
		if !slices.Equal(Words(s), Words(other)) {
			t.Fatalf("words of %q and of %q", s, other)
		}
		one, ok := One(s)
		if otherOne, otherOK := One(other); one != otherOne || ok != otherOK {
			t.Fatalf("one word of %q and of %q", s, other)
		}
		if !slices.Equal(Terms(api.Record{Source: s, Text: other}), Terms(api.Record{Source: other, Text: s})) {
			t.Fatalf("terms of %q and of %q", s, other)
		}
	}
}

// TestBetween: the words of two texts with a byte between that is no letter are those of the one, then those of the other.
func TestBetween(t *testing.T) {
	r := chance(5)
	for c := range 256 {
		if isLetter(byte(c)) {
			continue
		}
		for range 30 {
			a, b := someText(r, 60), someText(r, 60)
			if l := Words(a + string([]byte{byte(c)}) + b); !slices.Equal(l, slices.Concat(Words(a), Words(b))) {
				t.Fatalf("%q, the byte %d, %q: %q", a, c, b, l)
			}
		}
	}
}

// TestTermsAreTerms: terms of records are terms, each once, rising.
func TestTermsAreTerms(t *testing.T) {
	r := chance(6)
	for range 5000 {
		l := Terms(api.Record{Source: someText(r, 100), Text: someText(r, 300)})
		for i, s := range l {
			if !Term(s) || i > 0 && s <= l[i-1] {
				t.Fatalf("%q", l)
			}
		}
	}
}

// The rules that hold everywhere

// TestLists: what is told is apart from what was told ahead.
func TestLists(t *testing.T) {
	const s = "c b a c, disk full"
	r := api.Record{Source: s, Text: s}
	words, terms := Words(s), Terms(r)
	clear(words[:cap(words)])
	clear(terms[:cap(terms)])
	if l := Words(s); !slices.Equal(l, plainWords(s)) {
		t.Error(l)
	}
	if l := Terms(r); !slices.Equal(l, plainTerms(r)) {
		t.Error(l)
	}
}

// sharesWith tells whether a text lies in the memory of another one.
func sharesWith(whole, s string) bool {
	from, at := uintptr(unsafe.Pointer(unsafe.StringData(whole))), uintptr(unsafe.Pointer(unsafe.StringData(s)))
	return at >= from && at < from+uintptr(len(whole))
}

// TestMemory: words that are small as they stand are new memory, too.
func TestMemory(t *testing.T) {
	s := strings.Clone("disk full " + strings.Repeat("x", 30))
	for _, word := range slices.Concat(Words(s), Terms(api.Record{Source: s, Text: s})) {
		if sharesWith(s, word) {
			t.Errorf("%q shares the text's memory", word)
		}
	}
	for _, s := range []string{"disk", "Disk", strings.Repeat("x", 24)} {
		s := strings.Clone(s)
		if word, _ := One(s); sharesWith(s, word) {
			t.Errorf("%q shares the text's memory", word)
		}
	}
}
