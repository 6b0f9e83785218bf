package lz

import (
	"bytes"
	"math"
	"math/rand"
	"slices"
	"strings"
	"testing"

	"firkin/api"
)

// chance tells numbers that look like chance, the same in each run.
func chance(seed int64) *rand.Rand { return rand.New(rand.NewSource(seed)) }

func lit(x byte) api.Token { return api.Token{Lit: x} }

func match(n, dist int) api.Token { return api.Token{Len: n, Dist: dist} }

// lits tells the bytes of a text as tokens.
func lits(s string) []api.Token {
	var l []api.Token
	for i := range len(s) {
		l = append(l, lit(s[i]))
	}
	return l
}

// short tells bytes, or how many there are of many.
func short(b []byte) string {
	if len(b) > 60 {
		return string(b[:60]) + ".."
	}
	return string(b)
}

// plainFind tells the tokens of bytes as the chapter's words tell them: each place ahead is asked, from the nearest one on.
func plainFind(b []byte) []api.Token {
	var l []api.Token
	for at := 0; at < len(b); {
		long, dist := 0, 0
		for d := 1; d <= 4095 && d <= at; d++ {
			n := 0
			for n < 257 && at+n < len(b) && b[at+n] == b[at-d+n] {
				n++
			}
			if n > long {
				long, dist = n, d
			}
		}
		if long >= 3 {
			l = append(l, match(long, dist))
			at += long
		} else {
			l = append(l, lit(b[at]))
			at++
		}
	}
	return l
}

// plainMay tells whether a token may be, as the chapter's words tell it.
func plainMay(t api.Token) bool {
	isByte := t.Len == 0 && t.Dist == 0
	isMatch := t.Lit == 0 && t.Len >= 3 && t.Len <= 257 && t.Dist >= 1 && t.Dist <= 4095
	return isByte || isMatch
}

// plainPlay tells the bytes of tokens as the chapter's words tell them.
func plainPlay(l []api.Token, most int) ([]byte, api.Errno) {
	if most < 0 {
		return nil, api.ErrArg
	}
	b := []byte{}
	for _, t := range l {
		if !plainMay(t) {
			return nil, api.ErrCode
		}
		if t.Dist > len(b) {
			return nil, api.ErrRange
		}
		if t.Len == 0 {
			b = append(b, t.Lit)
		}
		for i := 0; i < t.Len; i++ {
			b = append(b, b[len(b)-t.Dist])
		}
		if len(b) > most {
			return nil, api.ErrLimit
		}
	}
	return b, api.OK
}

// checkFind holds the tokens of bytes against the chapter's words, and against what follows from them.
func checkFind(t *testing.T, b []byte) {
	t.Helper()
	l := Find(b)
	if want := plainFind(b); !slices.Equal(l, want) {
		at := 0
		for at < min(len(l), len(want)) && l[at] == want[at] {
			at++
		}
		t.Fatalf("Find(%q, %d bytes): unlike from token %d on: %v, want %v", short(b), len(b), at, l[at:min(at+3, len(l))], want[at:min(at+3, len(want))])
	}
	if len(l) > len(b) {
		t.Fatalf("Find(%q): %d tokens of %d bytes", short(b), len(l), len(b))
	}
	for _, k := range l {
		if !May(k) {
			t.Fatalf("Find(%q): %v may not be", short(b), k)
		}
	}
	checkPlayed(t, l, b)
}

// checkPlayed sees that tokens are played as these bytes, with room for just as many, and for more, but not for fewer.
func checkPlayed(t *testing.T, l []api.Token, b []byte) {
	t.Helper()
	for _, most := range []int{len(b), len(b) + 1, math.MaxInt} {
		if c, e := Play(l, most); e != api.OK || !bytes.Equal(c, b) {
			t.Fatalf("Play of %q with %d: %q, error %d", short(b), most, short(c), e)
		}
	}
	for _, most := range []int{len(b) - 1, len(b) / 2, 0} {
		if most < 0 || most == len(b) {
			continue
		}
		if c, e := Play(l, most); e != api.ErrLimit || len(c) > 0 {
			t.Fatalf("Play of %q with %d: %q, error %d", short(b), most, short(c), e)
		}
	}
}

// checkPlay holds what is played against the chapter's words.
func checkPlay(t *testing.T, l []api.Token, most int) {
	t.Helper()
	b, e := Play(l, most)
	want, wantE := plainPlay(l, most)
	if e != wantE || !bytes.Equal(b, want) {
		t.Fatalf("Play(%v, %d): %q, error %d, want %q, error %d", l, most, short(b), e, short(want), wantE)
	}
}

// eachRow hands on each row of n numbers below base.
func eachRow(n, base int, see func([]int)) {
	row := make([]int, n)
	for {
		see(row)
		i := 0
		for i < n && row[i] == base-1 {
			row[i] = 0
			i++
		}
		if i == n {
			return
		}
		row[i]++
	}
}

// chanceBytes tells n bytes of some few, now and then with a stretch of those ahead again.
func chanceBytes(r *rand.Rand, n, few int) []byte {
	var b []byte
	for len(b) < n {
		if len(b) > 0 && r.Intn(4) == 0 {
			from := r.Intn(len(b))
			b = append(b, b[from:min(len(b), from+r.Intn(300))]...)
		}
		b = append(b, byte(r.Intn(few)))
	}
	return b[:n]
}

// apart tells bytes none of whose three stand there twice (up to some 60000 bytes), of those above 99.
func apart(n int) []byte {
	b := make([]byte, 0, n+2)
	for i := 0; len(b) < n; i++ {
		b = append(b, byte(100+i%50), byte(150+i/50%50), byte(200+i/2500))
	}
	return b[:n]
}

// P10.1

func TestFindExamples(t *testing.T) {
	for _, x := range []struct {
		s    string
		want []api.Token
	}{
		{"", nil},
		{"a", lits("a")},
		{"aaa", lits("aaa")},
		{"aaaa", append(lits("a"), match(3, 1))},
		{"abcab", lits("abcab")},
		{"abcabc", append(lits("abc"), match(3, 3))},
		{"abcabca", append(lits("abc"), match(4, 3))},
		{"ababababa", append(lits("ab"), match(7, 2))},
		{"abcdXabcYabcd", append(append(append(lits("abcdX"), match(3, 5)), lit('Y')), match(4, 9))},
	} {
		if l := Find([]byte(x.s)); !slices.Equal(l, x.want) {
			t.Errorf("Find(%q): %v, want %v", x.s, l, x.want)
		}
	}
	if l := Find(nil); len(l) != 0 {
		t.Errorf("Find(nil): %v", l)
	}
}

func TestFindAllSmall(t *testing.T) {
	for _, x := range []struct{ few, most int }{{2, 13}, {3, 8}} {
		for n := range x.most + 1 {
			eachRow(n, x.few, func(row []int) {
				b := make([]byte, n)
				for i, k := range row {
					b[i] = byte('a' + k)
				}
				checkFind(t, b)
			})
		}
	}
}

func TestFindChance(t *testing.T) {
	r := chance(1)
	for _, few := range []int{1, 2, 3, 4, 10, 256} {
		for range 40 {
			checkFind(t, chanceBytes(r, r.Intn(600), few))
		}
		checkFind(t, chanceBytes(r, 9000, few))
	}
	for range 20 { // nothing but chance: matches of about three bytes from all over the window
		b := make([]byte, 5000)
		for i := range b {
			b[i] = byte(r.Intn(12))
		}
		checkFind(t, b)
	}
}

// TestFindRuns: rows of one byte, and of few bytes again and again, in which a match takes what it makes itself.
func TestFindRuns(t *testing.T) {
	for _, n := range []int{3, 4, 255, 256, 257, 258, 259, 260, 261, 262, 514, 515, 516, 517, 518, 5000} {
		for _, again := range []string{"\x00", "a", "ab", "aab", "abcd", "aaaaaaab"} {
			checkFind(t, []byte(strings.Repeat(again, n)[:n]))
		}
	}
	r := chance(2)
	for range 30 { // rows that break off here and there
		b := bytes.Repeat([]byte("a"), 4600)
		for range 1 + r.Intn(60) {
			b[r.Intn(len(b))] = byte('b' + r.Intn(2))
		}
		checkFind(t, b)
	}
}

func TestFindLongest(t *testing.T) {
	a := apart(300)
	for n := 1; n <= 300; n++ {
		b := append(append(slices.Clone(a[:n]), '-'), a[:n]...)
		l := Find(b)[n+1:]
		var want []api.Token
		switch {
		case n < 3:
			want = lits(string(a[:n]))
		case n <= 257:
			want = []api.Token{match(n, n+1)}
		case n < 260:
			want = append([]api.Token{match(257, n+1)}, lits(string(a[257:n]))...)
		default:
			want = []api.Token{match(257, n+1), match(n-257, n+1)}
		}
		if !slices.Equal(l, want) {
			t.Fatalf("%d bytes again: %v, want %v", n, l, want)
		}
	}
}

// TestFindWindow: the same bytes stand about as far back as a match reaches, first alone, then with three of them nearer.
func TestFindWindow(t *testing.T) {
	for far := 4093; far <= 4098; far++ {
		for _, n := range []int{3, 4, 10, 256, 257, 258} {
			b := apart(far + n)
			copy(b[far:], b[:n])
			b[far-1] = '+' // nothing of three bytes goes across it
			want, nearer := match(min(n, 257), far), match(min(n, 257), far)
			if far > 4095 {
				want, nearer = lit(b[0]), match(3, 200)
			}
			if got := Find(b)[far]; got != want {
				t.Fatalf("%d bytes from %d back: %v, want %v", n, far, got, want)
			}
			checkFind(t, b)
			if n == 3 {
				continue
			}
			copy(b[far-200:], b[:3])
			b[far-201], b[far-197] = '<', '>'
			if got := Find(b)[far-2]; got != nearer { // the three are one token
				t.Fatalf("%d bytes from %d back, and three from 200 back: %v, want %v", n, far, got, nearer)
			}
			checkFind(t, b)
		}
	}
}

// TestFindOfSeveral: of as many bytes the nearest are taken, of more bytes the farther ones; at the end of the bytes, and at 257, more of them don't count.
func TestFindOfSeveral(t *testing.T) {
	long := string(apart(300))
	for _, x := range []struct {
		s    string
		last api.Token
	}{
		{"abc1abc2abc", match(3, 4)},
		{"abc1abc2abc3", lit('3')},
		{"abcd1abc2abcd", match(4, 9)},
		{"abcd1abcd2abcd", match(4, 5)},
		{"abcd1abce2abc", match(3, 5)},
		{"abcde1abcd2abcde", match(5, 11)},
		{"abcd1abcde2abcd", match(4, 6)},
		{"abc1abcd2abc3abcd", match(4, 9)},
		{long[:258] + "1" + long[:257] + "2" + long[:257], match(257, 258)},
		{long[:260] + "1" + long[:257] + "2" + long[:257], match(257, 258)},
		{long[:257] + "1" + long[:256] + "2" + long[:257], match(257, 515)},
	} {
		l := Find([]byte(x.s))
		if got := l[len(l)-1]; got != x.last {
			t.Errorf("Find(%q): ends with %v, want %v", short([]byte(x.s)), got, x.last)
		}
		checkFind(t, []byte(x.s))
	}
	// with more bytes behind them the farther 258 aren't more than the nearer 257
	b := []byte(long[:258] + "1" + long[:257] + "2" + long[:258])
	if l := Find(b); l[len(l)-2] != match(257, 258) {
		t.Errorf("257 of 258: %v", l[len(l)-2:])
	}
	checkFind(t, b)
}

// P10.2

func TestPlayExamples(t *testing.T) {
	a := lits("a")
	for _, x := range []struct {
		l    []api.Token
		most int
		want string
		e    api.Errno
	}{
		{nil, 0, "", api.OK},
		{nil, -1, "", api.ErrArg},
		{nil, math.MinInt, "", api.ErrArg},
		{[]api.Token{}, 5, "", api.OK},
		{a, 0, "", api.ErrLimit},
		{a, 1, "a", api.OK},
		{lits("\x00\xff"), 2, "\x00\xff", api.OK},
		{append(a, match(3, 1)), 4, "aaaa", api.OK},
		{append(a, match(3, 1)), 3, "", api.ErrLimit},
		{append(a, match(3, 1)), 1, "", api.ErrLimit},
		{append(lits("abc"), match(5, 2)), 8, "abcbcbcb", api.OK},
		{append(lits("abc"), match(3, 3), match(4, 5)), 10, "abcabcbcab", api.OK},
		{[]api.Token{match(3, 1)}, 9, "", api.ErrRange},
		{append(lits("ab"), match(3, 2)), 9, "ababa", api.OK},
		{append(lits("ab"), match(3, 3)), 9, "", api.ErrRange},
		{append(lits("ab"), match(3, 2), match(3, 6)), 99, "", api.ErrRange},
		{[]api.Token{match(2, 1)}, 9, "", api.ErrCode},
	} {
		if b, e := Play(x.l, x.most); e != x.e || string(b) != x.want || e != api.OK && b != nil {
			t.Errorf("Play(%v, %d): %q, error %d", x.l, x.most, b, e)
		}
	}
}

func TestPlayEdges(t *testing.T) {
	ahead := lits(string(apart(4095)))
	for _, x := range []struct {
		l    []api.Token
		most int
		e    api.Errno
	}{
		{append(ahead[:4095:4095], match(257, 4095)), 4352, api.OK},
		{append(ahead[:4095:4095], match(257, 4095)), 4351, api.ErrLimit},
		{append(ahead[:4094:4094], match(257, 4095)), 9999, api.ErrRange},
		{append(ahead[:4095:4095], match(257, 4096)), 9999, api.ErrCode},
		{append(ahead[:4095:4095], match(258, 4095)), 9999, api.ErrCode},
	} {
		if _, e := Play(x.l, x.most); e != x.e {
			t.Errorf("%v behind %d bytes, with %d: error %d, want %d", x.l[len(x.l)-1], len(x.l)-1, x.most, e, x.e)
		}
		checkPlay(t, x.l, x.most)
	}
}

// TestPlayOrder: a token with several faults tells the first of them, and of several tokens the first one with a fault tells.
func TestPlayOrder(t *testing.T) {
	bad, far := match(3, 9000), match(3, 4000)
	for _, x := range []struct {
		l    []api.Token
		most int
		e    api.Errno
	}{
		{[]api.Token{bad}, -1, api.ErrArg},
		{[]api.Token{bad}, 0, api.ErrCode},
		{[]api.Token{far}, 0, api.ErrRange},
		{[]api.Token{far, bad}, 0, api.ErrRange},
		{[]api.Token{lit('a'), bad, far}, 0, api.ErrLimit},
		{[]api.Token{lit('a'), far, bad}, 1, api.ErrRange},
		{[]api.Token{lit('a'), bad, far}, 1, api.ErrCode},
		{[]api.Token{lit('a'), match(3, 1), bad}, 3, api.ErrLimit},
		{[]api.Token{lit('a'), match(3, 1), bad}, 4, api.ErrCode},
		{[]api.Token{lit('a'), match(3, 2), lit('b')}, 0, api.ErrLimit},
		{[]api.Token{lit('a'), match(3, 2), lit('b')}, 1, api.ErrRange},
	} {
		if b, e := Play(x.l, x.most); e != x.e || b != nil {
			t.Errorf("Play(%v, %d): %q, error %d, want %d", x.l, x.most, b, e, x.e)
		}
	}
}

// TestPlayAllSmall: all rows of few tokens, right ones and wrong ones, with each count.
func TestPlayAllSmall(t *testing.T) {
	some := []api.Token{lit('a'), lit('b'), match(3, 1), match(3, 2), match(4, 5), {Lit: 1, Len: 3, Dist: 1}, match(2, 1), {Dist: 1}}
	for n := range 5 {
		eachRow(n, len(some), func(row []int) {
			l := make([]api.Token, n)
			for i, k := range row {
				l[i] = some[k]
			}
			for most := -1; most <= 12; most++ {
				checkPlay(t, l, most)
			}
		})
	}
}

func TestPlayChance(t *testing.T) {
	r := chance(3)
	for range 3000 {
		var l []api.Token
		have := 0
		for range r.Intn(60) {
			k := lit(byte(r.Intn(256)))
			if have > 0 && r.Intn(3) == 0 {
				k = match(3+r.Intn(255), 1+r.Intn(min(have, 4095)))
			}
			l = append(l, k)
			have += max(1, k.Len)
		}
		if len(l) > 0 && r.Intn(4) == 0 {
			l[r.Intn(len(l))] = api.Token{Lit: uint8(r.Intn(2)), Len: r.Intn(300), Dist: r.Intn(4200)}
		}
		for _, most := range []int{have, have - 1, r.Intn(have + 1), math.MaxInt} {
			checkPlay(t, l, most)
		}
	}
}

// P10.3

func TestMay(t *testing.T) {
	for lit := range 256 {
		for _, k := range []api.Token{{}, {Len: 3, Dist: 1}, {Len: 3}, {Dist: 1}, {Len: 257, Dist: 4095}, {Len: 258, Dist: 4095}} {
			k.Lit = uint8(lit)
			if May(k) != plainMay(k) {
				t.Errorf("May(%v): %v", k, May(k))
			}
		}
	}
	lens := []int{math.MinInt, -257, -3, -1, 0, 1, 2, 3, 4, 255, 256, 257, 258, 259, 1000, 1 << 16, 1<<32 + 3, math.MaxInt}
	dists := []int{math.MinInt, -4095, -1, 0, 1, 2, 3, 4094, 4095, 4096, 4097, 1 << 16, 1<<32 + 1, math.MaxInt}
	for _, n := range lens {
		for _, d := range dists {
			for _, x := range []uint8{0, 1, 255} {
				k := api.Token{Lit: x, Len: n, Dist: d}
				if May(k) != plainMay(k) {
					t.Errorf("May(%v): %v", k, May(k))
				}
				checkPlay(t, append(lits("ab"), k), 9)
				checkPlay(t, append(lits("ab"), k), math.MaxInt)
			}
		}
	}
	for n := -2; n <= 300; n++ {
		for d := -2; d <= 4200; d++ {
			if k := match(n, d); May(k) != plainMay(k) {
				t.Fatalf("May(%v): %v", k, May(k))
			}
		}
	}
}

// P10.4: in checkFind for each of its bytes; here for those of a whole block.
func TestThereAndBack(t *testing.T) {
	r := chance(4)
	for _, n := range []int{32767, 32768, 100000} {
		for _, few := range []int{1, 2, 60, 256} {
			b := chanceBytes(r, n, few)
			l := Find(b)
			if len(l) > n {
				t.Errorf("%d tokens of %d bytes", len(l), n)
			}
			for _, k := range l {
				if !May(k) {
					t.Fatalf("%v may not be", k)
				}
			}
			checkPlayed(t, l, b)
		}
	}
	if l := Find(apart(5000)); len(l) != 5000 {
		t.Errorf("%d tokens of 5000 bytes that stand there but once", len(l))
	}
}

// Rules 3, 5 and 6

func TestMemory(t *testing.T) {
	room := []byte("abcabcabcabcX-")
	b := room[:12]
	l := Find(b)
	want := slices.Clone(l)
	if string(room) != "abcabcabcabcX-" {
		t.Errorf("Find changed what was handed in: %q", room)
	}
	again := Find(b)
	for i := range again {
		again[i] = match(9, 9)
	}
	copy(room, "..............")
	if !slices.Equal(l, want) {
		t.Errorf("Find: its answer changed: %v", l)
	}
	tokens := append(slices.Clone(l), lit('Y'))[:len(l)]
	p, e := Play(tokens, 12)
	q, _ := Play(tokens, 12)
	clear(q)
	tokens[0] = lit('!')
	if string(p) != "abcabcabcabc" || e != api.OK {
		t.Errorf("Play: its answer changed: %q, error %d", p, e)
	}
	if tokens[0] = want[0]; !slices.Equal(tokens[:len(l)+1], append(want, lit('Y'))) {
		t.Errorf("Play changed what was handed in: %v", tokens)
	}
}
