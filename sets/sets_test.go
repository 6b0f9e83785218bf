package sets

import (
	"math"
	"math/rand"
	"slices"
	"strconv"
	"testing"

	"firkin/api"
)

// chance tells numbers that look like chance, the same in each run.
func chance(seed int64) *rand.Rand { return rand.New(rand.NewSource(seed)) }

// plainMay tells whether a list is a set, as the chapter's words tell it.
func plainMay(l []int) bool {
	for i := range l {
		if l[i] < 0 || i > 0 && l[i] <= l[i-1] {
			return false
		}
	}
	return true
}

// plainPick tells the numbers below 64 that are asked for.
func plainPick(asked func(x int) bool) []int {
	var l []int
	for x := range 64 {
		if asked(x) {
			l = append(l, x)
		}
	}
	return l
}

// have tells how many of the lists have a number.
func have(x int, ls [][]int) int {
	n := 0
	for _, l := range ls {
		if slices.Contains(l, x) {
			n++
		}
	}
	return n
}

func plainBoth(ls [][]int) ([]int, api.Errno) {
	if len(ls) == 0 || !plainAll(ls) {
		return nil, api.ErrArg
	}
	return plainPick(func(x int) bool { return have(x, ls) == len(ls) }), api.OK
}

func plainAny(ls [][]int) ([]int, api.Errno) {
	if !plainAll(ls) {
		return nil, api.ErrArg
	}
	return plainPick(func(x int) bool { return have(x, ls) > 0 }), api.OK
}

func plainLess(a []int, bs [][]int) ([]int, api.Errno) {
	if !plainMay(a) || !plainAll(bs) {
		return nil, api.ErrArg
	}
	return plainPick(func(x int) bool { return slices.Contains(a, x) && have(x, bs) == 0 }), api.OK
}

func plainRest(bound int, l []int) ([]int, api.Errno) {
	if bound < 0 || bound > 20000 || !plainMay(l) || slices.ContainsFunc(l, func(x int) bool { return x >= bound }) {
		return nil, api.ErrArg
	}
	var rest []int
	at := 0
	for x := range bound {
		if at < len(l) && l[at] == x {
			at++
		} else {
			rest = append(rest, x)
		}
	}
	return rest, api.OK
}

func plainNext(l []int, x int) (int, bool) {
	if !plainMay(l) {
		return 0, false
	}
	for i := range l {
		if l[i] >= x {
			return i, true
		}
	}
	return 0, false
}

// plainAll tells whether each of the lists is a set.
func plainAll(ls [][]int) bool {
	return !slices.ContainsFunc(ls, func(l []int) bool { return !plainMay(l) })
}

// wantSame sees that a call tells what is wanted.
func wantSame(t *testing.T, what string, ls [][]int, l []int, e api.Errno, want []int, wantE api.Errno) {
	t.Helper()
	if e != wantE || !slices.Equal(l, want) {
		t.Fatalf("%s of %d: %d, error %d; wanted %d, error %d", what, ls, l, e, want, wantE)
	}
}

// wantAll sees that Both, Any and Less tell of these lists what the chapter's words tell.
func wantAll(t *testing.T, ls ...[]int) {
	t.Helper()
	l, e := Both(ls...)
	want, wantE := plainBoth(ls)
	wantSame(t, "Both", ls, l, e, want, wantE)
	l, e = Any(ls...)
	want, wantE = plainAny(ls)
	wantSame(t, "Any", ls, l, e, want, wantE)
	for i := range ls {
		bs := slices.Delete(slices.Clone(ls), i, i+1)
		l, e = Less(ls[i], bs...)
		want, wantE = plainLess(ls[i], bs)
		wantSame(t, "Less from place "+strconv.Itoa(i), ls, l, e, want, wantE)
	}
}

// subsets tells all sets of numbers below n.
func subsets(n int) [][]int {
	all := make([][]int, 1<<n)
	for i := range all {
		for x := range n {
			if i>>x&1 == 1 {
				all[i] = append(all[i], x)
			}
		}
	}
	return all
}

// lists tells all lists of at most n of these numbers.
func lists(n int, of ...int) [][]int {
	all := [][]int{nil}
	for first, k := 0, 0; k < n; k++ {
		long := len(all)
		for _, l := range all[first:] {
			for _, x := range of {
				all = append(all, append(slices.Clone(l), x))
			}
		}
		first = long
	}
	return all
}

// some tells a set of numbers below n, each of which is in it as often as asked for.
func some(r *rand.Rand, n int, often float64) []int {
	var l []int
	for x := range n {
		if r.Float64() < often {
			l = append(l, x)
		}
	}
	return l
}

// span tells numbers from one to below another.
func span(from, to int) []int {
	var l []int
	for x := from; x < to; x++ {
		l = append(l, x)
	}
	return l
}

// noSets: lists that are no sets.
var noSets = [][]int{
	{-1}, {0, 0}, {1, 0}, {-1, 0}, {0, -1}, {-2, -1}, {1, 1}, {2, 1}, {0, 1, 1}, {0, 2, 1}, {0, 1, 2, 0}, {5, 6, 7, 8, 8}, {0, 1, 2, 3, -4}, {-1, 1, 2, 3},
	{math.MinInt}, {math.MinInt, math.MaxInt}, {math.MaxInt, math.MinInt}, {math.MaxInt, math.MaxInt}, {math.MaxInt, 0}, {1 << 32, 1},
}

// P14.1

func TestMay(t *testing.T) {
	for _, l := range [][]int{nil, {}, {0}, {1}, {0, 1}, {0, 2}, {1, 3, 5}, {math.MaxInt}, {0, math.MaxInt}, {math.MaxInt - 1, math.MaxInt}, {1<<32 - 1, 1 << 32}, span(0, 30000)} {
		if !May(l) {
			t.Error(l)
		}
	}
	for _, l := range noSets {
		if May(l) {
			t.Error(l)
		}
	}
}

func TestMayAll(t *testing.T) {
	for _, l := range lists(4, -2, -1, 0, 1, 2, 3, 4) {
		if May(l) != plainMay(l) {
			t.Error(l)
		}
	}
}

// TestMayChance: a set in which one number is put in place of another stays one only where it rises still.
func TestMayChance(t *testing.T) {
	r := chance(1)
	for range 2000 {
		l := some(r, 40, r.Float64())
		if len(l) > 0 {
			l[r.Intn(len(l))] = r.Intn(42) - 1
		}
		if May(l) != plainMay(l) {
			t.Fatal(l)
		}
	}
}

// P14.2

func TestBoth(t *testing.T) {
	for _, x := range []struct {
		ls   [][]int
		want []int
	}{
		{[][]int{{1, 3, 5}, {3, 4, 5}}, []int{3, 5}},
		{[][]int{{1, 2}}, []int{1, 2}},
		{[][]int{nil}, nil},
		{[][]int{{}, {1}}, nil},
		{[][]int{{1}, {}}, nil},
		{[][]int{{0}, {0}, {0}}, []int{0}},
		{[][]int{{0, 1}, {1, 2}, {0, 2}}, nil},
		{[][]int{{1, 2, 3}, {2, 3, 4}, {3, 4, 5}}, []int{3}},
		{[][]int{{math.MaxInt}, {0, math.MaxInt}}, []int{math.MaxInt}},
		{[][]int{{math.MaxInt}, {math.MaxInt - 1}}, nil},
		{[][]int{span(0, 30000), span(29990, 40000)}, span(29990, 30000)},
	} {
		l, e := Both(x.ls...)
		wantSame(t, "Both", x.ls, l, e, x.want, api.OK)
	}
	l, e := Both()
	wantSame(t, "Both", nil, l, e, nil, api.ErrArg)
}

func TestAny(t *testing.T) {
	for _, x := range []struct {
		ls   [][]int
		want []int
	}{
		{nil, nil},
		{[][]int{nil}, nil},
		{[][]int{nil, {}, nil}, nil},
		{[][]int{{1, 3}, {2, 3}}, []int{1, 2, 3}},
		{[][]int{{1, 3}, {2, 3}, nil, {9}}, []int{1, 2, 3, 9}},
		{[][]int{{4}, {3}, {2}, {1}, {0}}, []int{0, 1, 2, 3, 4}},
		{[][]int{{7}, {7}, {7}, {7}, {7}, {7}, {7}}, []int{7}},
		{[][]int{{math.MaxInt}, {0}, {math.MaxInt - 1, math.MaxInt}}, []int{0, math.MaxInt - 1, math.MaxInt}},
		{[][]int{span(20000, 40000), span(0, 30000)}, span(0, 40000)},
	} {
		l, e := Any(x.ls...)
		wantSame(t, "Any", x.ls, l, e, x.want, api.OK)
	}
}

func TestLess(t *testing.T) {
	for _, x := range []struct {
		a    []int
		bs   [][]int
		want []int
	}{
		{nil, nil, nil},
		{nil, [][]int{{1}}, nil},
		{[]int{1, 3, 5}, nil, []int{1, 3, 5}},
		{[]int{1, 3, 5}, [][]int{nil}, []int{1, 3, 5}},
		{[]int{1, 3, 5}, [][]int{{3}, {7}}, []int{1, 5}},
		{[]int{1, 3, 5}, [][]int{{5}, {3}, {1}}, nil},
		{[]int{1, 3, 5}, [][]int{{0, 2, 4, 6}}, []int{1, 3, 5}},
		{[]int{1, 3, 5}, [][]int{{1, 3, 5}}, nil},
		{[]int{0, math.MaxInt - 1, math.MaxInt}, [][]int{{math.MaxInt}}, []int{0, math.MaxInt - 1}},
		{span(0, 30000), [][]int{span(10, 40000), {0, 3}}, []int{1, 2, 4, 5, 6, 7, 8, 9}},
	} {
		l, e := Less(x.a, x.bs...)
		wantSame(t, "Less", append([][]int{x.a}, x.bs...), l, e, x.want, api.OK)
	}
}

// TestSmall: all one, two and three sets of small numbers.
func TestSmall(t *testing.T) {
	all := subsets(4)
	wantAll(t)
	for _, a := range all {
		wantAll(t, a)
		for _, b := range all {
			wantAll(t, a, b)
			for _, c := range all {
				wantAll(t, a, b, c)
			}
		}
	}
}

func TestChance(t *testing.T) {
	r := chance(2)
	for range 1500 {
		ls := make([][]int, r.Intn(9))
		often := r.Float64()
		for i := range ls {
			ls[i] = some(r, 1+r.Intn(64), math.Sqrt(often))
		}
		wantAll(t, ls...)
	}
}

// TestRefused: a list that is no set is refused wherever it stands, and whatever stands beside it.
func TestRefused(t *testing.T) {
	for _, l := range noSets {
		for _, beside := range [][]int{nil, {0}, {1, 2}, l} {
			wantAll(t, l)
			wantAll(t, l, beside)
			wantAll(t, beside, l)
			wantAll(t, beside, l, nil)
			wantAll(t, nil, nil, nil, nil, beside, l)
		}
	}
}

// TestRefusedSmall: all pairs of short lists, of which most are no sets.
func TestRefusedSmall(t *testing.T) {
	all := lists(3, -1, 0, 1, 2)
	for _, a := range all {
		for _, b := range all {
			wantAll(t, a, b)
		}
	}
}

// TestMany: however many lists there are, it takes no time that grows with their count times their numbers.
func TestMany(t *testing.T) {
	const n = 200000
	ones, long := make([][]int, n), span(0, n)
	for i := range ones {
		ones[i] = []int{n - 1 - i}
	}
	l, e := Any(ones...)
	if e != api.OK || !slices.Equal(l, long) {
		t.Error("Any", len(l), e)
	}
	l, e = Less(long, ones[5:]...)
	if e != api.OK || !slices.Equal(l, span(n-5, n)) {
		t.Error("Less", len(l), e)
	}
	l, e = Both(append([][]int{long}, ones...)...)
	if e != api.OK || len(l) != 0 {
		t.Error("Both", len(l), e)
	}
	l, e = Both(slices.Repeat([][]int{{1, 7}}, n)...)
	if e != api.OK || !slices.Equal(l, []int{1, 7}) {
		t.Error("Both", len(l), e)
	}
}

// P14.3

func TestRest(t *testing.T) {
	for _, x := range []struct {
		bound int
		l     []int
		want  []int
		e     api.Errno
	}{
		{4, []int{1}, []int{0, 2, 3}, api.OK},
		{0, nil, nil, api.OK},
		{1, nil, []int{0}, api.OK},
		{1, []int{0}, nil, api.OK},
		{5, []int{0, 1, 2, 3, 4}, nil, api.OK},
		{5, []int{4}, []int{0, 1, 2, 3}, api.OK},
		{5, []int{0}, []int{1, 2, 3, 4}, api.OK},
		{20000, nil, span(0, 20000), api.OK},
		{20000, span(0, 20000), nil, api.OK},
		{20000, span(1, 20000), []int{0}, api.OK},
		{20000, []int{19999}, span(0, 19999), api.OK},
		{0, []int{0}, nil, api.ErrArg},
		{4, []int{4}, nil, api.ErrArg},
		{4, []int{5}, nil, api.ErrArg},
		{4, []int{0, 1, 2, 3, 4}, nil, api.ErrArg},
		{4, []int{3, math.MaxInt}, nil, api.ErrArg},
		{20000, []int{20000}, nil, api.ErrArg},
		{20001, nil, nil, api.ErrArg},
		{20001, []int{20000}, nil, api.ErrArg},
		{-1, nil, nil, api.ErrArg},
		{-1, []int{-2}, nil, api.ErrArg},
		{math.MaxInt, nil, nil, api.ErrArg},
		{math.MinInt, nil, nil, api.ErrArg},
		{1 << 32, nil, nil, api.ErrArg},
	} {
		l, e := Rest(x.bound, x.l)
		wantSame(t, "Rest below "+strconv.Itoa(x.bound), [][]int{x.l}, l, e, x.want, x.e)
	}
}

// wantRest sees that Rest tells what the chapter's words tell.
func wantRest(t *testing.T, bound int, l []int) {
	t.Helper()
	rest, e := Rest(bound, l)
	want, wantE := plainRest(bound, l)
	wantSame(t, "Rest below "+strconv.Itoa(bound), [][]int{l}, rest, e, want, wantE)
}

func TestRestSmall(t *testing.T) {
	for _, l := range append(lists(4, -1, 0, 1, 2, 3, 4), noSets...) {
		for bound := -2; bound < 8; bound++ {
			wantRest(t, bound, l)
		}
	}
}

func TestRestChance(t *testing.T) {
	r := chance(3)
	for range 200 {
		bound := r.Intn(2000)
		wantRest(t, bound, some(r, bound+r.Intn(3), r.Float64()))
	}
	for range 10 {
		bound := 19990 + r.Intn(20)
		wantRest(t, bound, some(r, 20000, r.Float64()))
	}
}

// P14.4

func TestNext(t *testing.T) {
	for _, x := range []struct {
		l  []int
		x  int
		i  int
		ok bool
	}{
		{[]int{2, 4, 6}, 5, 2, true},
		{[]int{2, 4, 6}, 4, 1, true},
		{[]int{2, 4, 6}, 3, 1, true},
		{[]int{2, 4, 6}, 2, 0, true},
		{[]int{2, 4, 6}, 0, 0, true},
		{[]int{2, 4, 6}, -1, 0, true},
		{[]int{2, 4, 6}, math.MinInt, 0, true},
		{[]int{2, 4, 6}, 6, 2, true},
		{[]int{2, 4, 6}, 7, 0, false},
		{[]int{2, 4, 6}, math.MaxInt, 0, false},
		{[]int{2, math.MaxInt}, math.MaxInt, 1, true},
		{[]int{0}, 0, 0, true},
		{[]int{0}, 1, 0, false},
		{nil, 0, 0, false},
		{nil, math.MinInt, 0, false},
		{[]int{}, math.MaxInt, 0, false},
		{span(0, 30000), 29999, 29999, true},
	} {
		if i, ok := Next(x.l, x.x); i != x.i || ok != x.ok {
			t.Errorf("%d from %d: %d, %v", x.l, x.x, i, ok)
		}
	}
}

// wantNext sees that Next tells what the chapter's words tell.
func wantNext(t *testing.T, l []int, x int) {
	t.Helper()
	i, ok := Next(l, x)
	if want, wantOK := plainNext(l, x); i != want || ok != wantOK {
		t.Fatalf("%d from %d: %d, %v; wanted %d, %v", l, x, i, ok, want, wantOK)
	}
}

func TestNextSmall(t *testing.T) {
	for _, l := range append(lists(4, -1, 0, 1, 2, 3, 4), noSets...) {
		for x := -3; x < 8; x++ {
			wantNext(t, l, x)
		}
	}
}

func TestNextChance(t *testing.T) {
	r := chance(4)
	for range 200 {
		l := some(r, 100, r.Float64())
		for x := -1; x < 102; x++ {
			wantNext(t, l, x)
		}
	}
}

// P14.5

// told sees that a call wasn't refused, and tells its list.
func told(t *testing.T) func(l []int, e api.Errno) []int {
	return func(l []int, e api.Errno) []int {
		t.Helper()
		if e != api.OK || !May(l) {
			t.Fatal(l, e)
		}
		return l
	}
}

func TestOrder(t *testing.T) {
	r := chance(5)
	for range 300 {
		ls := make([][]int, 1+r.Intn(6))
		for i := range ls {
			ls[i] = some(r, 50, r.Float64())
		}
		other := slices.Clone(ls)
		r.Shuffle(len(other), func(i, k int) { other[i], other[k] = other[k], other[i] })
		a, l := some(r, 50, 0.7), told(t)
		if !slices.Equal(l(Both(ls...)), l(Both(other...))) || !slices.Equal(l(Any(ls...)), l(Any(other...))) || !slices.Equal(l(Less(a, ls...)), l(Less(a, other...))) {
			t.Fatal(ls, other)
		}
	}
}

// TestOrderRefused: whatever the order, lists with one that is no set are refused.
func TestOrderRefused(t *testing.T) {
	for i := range 5 {
		ls := [][]int{{1}, {2}, nil, {3, 4}}
		ls = slices.Insert(ls, i, []int{6, 5})
		wantAll(t, ls...)
	}
}

func TestRests(t *testing.T) {
	r := chance(6)
	for range 300 {
		bound := r.Intn(80)
		a, b, l := some(r, bound, r.Float64()), some(r, bound, r.Float64()), told(t)
		restA, restB := l(Rest(bound, a)), l(Rest(bound, b))
		if !slices.Equal(l(Rest(bound, l(Both(a, b)))), l(Any(restA, restB))) {
			t.Fatal("what isn't in both", bound, a, b)
		}
		if !slices.Equal(l(Rest(bound, l(Any(a, b)))), l(Both(restA, restB))) {
			t.Fatal("what is in none", bound, a, b)
		}
		if !slices.Equal(l(Less(a, b)), l(Both(a, restB))) {
			t.Fatal("Less", bound, a, b)
		}
		if !slices.Equal(l(Rest(bound, restA)), a) {
			t.Fatal("the rest of the rest", bound, a)
		}
	}
}

// The rules that hold everywhere

// lent tells a list with spare room behind it, and the whole of it.
func lent(l ...int) ([]int, []int) {
	whole := append(slices.Clone(l), 99, 98, 97, 96, 95)
	return whole[:len(l)], whole
}

// calls: each call that tells a list, of two lists.
func calls(a, b []int) [][]int {
	var all [][]int
	for _, call := range []func() ([]int, api.Errno){
		func() ([]int, api.Errno) { return Both(a) },
		func() ([]int, api.Errno) { return Both(a, a) },
		func() ([]int, api.Errno) { return Both(a, b) },
		func() ([]int, api.Errno) { return Any(a) },
		func() ([]int, api.Errno) { return Any(a, nil) },
		func() ([]int, api.Errno) { return Any(nil, a) },
		func() ([]int, api.Errno) { return Any(a, b) },
		func() ([]int, api.Errno) { return Less(a) },
		func() ([]int, api.Errno) { return Less(a, nil) },
		func() ([]int, api.Errno) { return Less(a, b) },
		func() ([]int, api.Errno) { return Rest(9, nil) },
		func() ([]int, api.Errno) { return Rest(9, a) },
	} {
		l, _ := call()
		all = append(all, l)
	}
	return all
}

// TestMemory: what is handed in stays, and its spare room; what is told is apart from it, and from what else is told.
func TestMemory(t *testing.T) {
	a, wholeA := lent(1, 2, 5)
	b, wholeB := lent(2, 7)
	first, second := calls(a, b), calls(a, b)
	keptA, keptB := slices.Clone(wholeA), slices.Clone(wholeB)
	for i, l := range first {
		if len(l) == 0 {
			t.Fatal("the call", i, "tells nothing")
		}
		for k := range l[:cap(l)] {
			l[:cap(l)][k] = -7
		}
		if !slices.Equal(wholeA, keptA) || !slices.Equal(wholeB, keptB) {
			t.Fatal("the call", i, "shares what was handed in", wholeA, wholeB)
		}
		for k := i + 1; k < len(first); k++ {
			if slices.Contains(first[k], -7) {
				t.Fatal("the calls", i, k, "share what they tell")
			}
		}
	}
	for i, l := range second {
		if slices.Contains(l, -7) || !May(l) {
			t.Error("the call", i, "shares what was told ahead", l)
		}
	}
	if !slices.Equal(wholeA, []int{1, 2, 5, 99, 98, 97, 96, 95}) || !slices.Equal(wholeB, []int{2, 7, 99, 98, 97, 96, 95}) {
		t.Error(wholeA, wholeB)
	}
}

// TestListOfLists: the row of lists that is handed in stays as it is.
func TestListOfLists(t *testing.T) {
	ls := [][]int{{5}, {1, 3}, nil, {2}, {4, 9}}
	whole := ls[:3]
	Both(whole...)
	Any(whole...)
	Less([]int{1}, whole...)
	if len(ls[0]) != 1 || len(ls[1]) != 2 || ls[2] != nil || !slices.Equal(ls[3], []int{2}) || !slices.Equal(ls[4], []int{4, 9}) || ls[1][1] != 3 {
		t.Error(ls)
	}
}
