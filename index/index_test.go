package index_test

import (
	"cmp"
	"fmt"
	"math"
	"slices"
	"testing"

	"corncrib/api"
	"corncrib/index"
	"corncrib/sample"
)

// is asks that e is an error of this code and of no other one; 0 is no error.
func is(t *testing.T, why string, e error, code api.Code) {
	t.Helper()
	if !sample.Is(e, code) {
		t.Errorf("%s: %v; want code %d", why, e, code)
	}
}

// many tells n positions by rising keys, two of which never stand side by side;
// those of 4096 reach over half of all numbers.
func many(n int) []api.Pos {
	l := make([]api.Pos, n)
	for i := range l {
		l[i] = api.Pos{Key: uint64(i*(i+1)*3)<<38 + 2, Off: 16 + 40*i, Len: i % 4000, Cookie: uint32(i) * 0x9E3779B9}
		if i%3 == 1 {
			l[i].Len, l[i].Gone = 0, true
		}
	}
	return l
}

// moved tells the positions, at other places and not gone, or gone if they weren't.
func moved(l []api.Pos) []api.Pos {
	l = slices.Clone(l)
	for i := range l {
		l[i].Off += 1 << 20
		l[i].Cookie++
		l[i].Gone = !l[i].Gone
	}
	return l
}

// orders tells the positions one way and another.
func orders(l []api.Pos) [][]api.Pos {
	back := slices.Clone(l)
	slices.Reverse(back)
	var strewn, inwards, pairs []api.Pos
	for i := range l {
		strewn = append(strewn, l[i*1237%len(l)])
		pairs = append(pairs, l[min(i^1, len(l)-1)])
		if i%2 == 0 {
			inwards = append(inwards, l[i/2])
		} else {
			inwards = append(inwards, l[len(l)-1-i/2])
		}
	}
	return [][]api.Pos{l, back, strewn, inwards, pairs, slices.Concat(l[len(l)/2:], l[:len(l)/2])}
}

// sorted tells the positions by their keys.
func sorted(l []api.Pos) []api.Pos {
	return slices.SortedFunc(slices.Values(l), func(a, b api.Pos) int { return cmp.Compare(a.Key, b.Key) })
}

// told tells positions as text, as far as they are few.
func told(l []api.Pos) string {
	if len(l) > 6 {
		return fmt.Sprint(l[:3], " .. ", l[len(l)-3:], " of ", len(l))
	}
	return fmt.Sprint(l)
}

// alike asks that a list that was told is the one that is wanted.
func alike(t *testing.T, why string, got, want []api.Pos) {
	t.Helper()
	if !slices.Equal(got, want) {
		t.Errorf("%s: %s; want %s", why, told(got), told(want))
	}
}

// none asks that a key isn't there.
func none(t *testing.T, why string, x *index.Index, key uint64) {
	t.Helper()
	p, e := x.Find(key)
	is(t, fmt.Sprint(why, ": Find of ", key), e, api.ErrNone)
	if p != (api.Pos{}) {
		t.Errorf("%s: Find of %d: %v beside an error", why, key, p)
	}
}

// has asks that an index has just these positions, which come by their keys, by
// all calls that tell them.
func has(t *testing.T, why string, x *index.Index, want ...api.Pos) {
	t.Helper()
	if x == nil {
		t.Fatalf("%s: no index", why)
	}
	alike(t, why+": All", x.All(), want)
	alike(t, why+": From", x.From(0, math.MaxInt), want)
	keys, gone := map[uint64]int{}, 0
	for i, p := range want {
		keys[p.Key] = i + 1
		if p.Gone {
			gone++
		}
	}
	if l, g := x.Len(); l != len(want)-gone || g != gone {
		t.Errorf("%s: Len: %d, %d; want %d, %d", why, l, g, len(want)-gone, gone)
	}
	for _, p := range want {
		if got, e := x.Find(p.Key); got != p || e != nil {
			t.Errorf("%s: Find of %d: %v, %v; want %v", why, p.Key, got, e, p)
		}
		for _, key := range []uint64{p.Key - 1, p.Key + 1} {
			if keys[key] == 0 {
				none(t, why, x, key)
			}
		}
	}
}

// puts asks that Put says nothing against all these.
func puts(t *testing.T, why string, x *index.Index, l ...api.Pos) {
	t.Helper()
	for _, p := range l {
		is(t, fmt.Sprint(why, ": Put of ", p), x.Put(p), 0)
	}
}

// some are positions whose keys stand ahead of, at, beside and behind one another.
func some() []api.Pos {
	return []api.Pos{
		{Key: 10, Off: 16, Len: 5, Cookie: 9},
		{Key: 11, Off: 56, Cookie: 8, Gone: true},
		{Key: 20, Off: 88, Len: 4096},
		{Key: 1 << 63, Off: 1 << 24, Len: 1, Cookie: math.MaxUint32},
	}
}

func TestExample(t *testing.T) {
	x := index.New(nil)
	puts(t, "P8.1: the example", x, api.Pos{Key: 5}, api.Pos{Key: 3})
	has(t, "P8.1: the example", x, api.Pos{Key: 3}, api.Pos{Key: 5})
}

func TestNew(t *testing.T) {
	has(t, "P8.1: New of nil", index.New(nil))
	has(t, "P8.1: New of none", index.New([]api.Pos{}))
	for _, p := range some() {
		has(t, "P8.1: New of one", index.New([]api.Pos{p}), p)
	}
	has(t, "P8.1: New of some", index.New(some()), some()...)
}

func TestNewOfTheSameKey(t *testing.T) {
	a, b, c := api.Pos{Key: 7, Off: 16, Len: 3}, api.Pos{Key: 7, Off: 50, Gone: true}, api.Pos{Key: 7, Off: 20, Cookie: 9}
	for _, l := range [][]api.Pos{{a, a}, {a, b}, {b, a}, {a, b, c}, {c, b, a}, {b, b, c, c, a, c, b}} {
		last := l[len(l)-1]
		has(t, "P8.1: New of one key, "+told(l), index.New(l), last)
		// Others between them change nothing.
		var mixed []api.Pos
		for i, p := range l {
			mixed = append(mixed, p, api.Pos{Key: 6 + uint64(i%2)*2, Off: i})
		}
		n := len(l)
		six, eight := api.Pos{Key: 6, Off: (n - 1) / 2 * 2}, api.Pos{Key: 8, Off: (n-2)/2*2 + 1}
		has(t, "P8.1: New of "+told(mixed), index.New(mixed), six, last, eight)
	}
}

func TestNewUpToItsMost(t *testing.T) {
	for _, n := range []int{4095, 4096} {
		l := many(n)
		for i, order := range orders(l) {
			has(t, fmt.Sprint("P8.1: New of ", n, ", order ", i), index.New(order), l...)
		}
	}
	for _, n := range []int{4097, 4098, 9000} {
		for i, order := range orders(many(n)) {
			// The last ones that come are left out, wherever their keys stand.
			x := index.New(order)
			has(t, fmt.Sprint("P8.1: New of ", n, ", order ", i), x, sorted(order[:4096])...)
			for _, p := range order[4096:] {
				none(t, "P8.1: New of too many", x, p.Key)
			}
		}
	}
}

func TestNewBehindItsMost(t *testing.T) {
	l := many(4097)
	for _, order := range orders(l) {
		l, extra := order[:4096], order[4096]
		other := moved([]api.Pos{l[0], l[2000], l[4095]})
		want := slices.Clone(l)
		want[0], want[2000], want[4095] = other[0], other[1], other[2]
		want = sorted(want)
		has(t, "P8.1: New of 4096, and keys that are there", index.New(slices.Concat(l, other)), want...)
		// What has no room doesn't end it.
		more := slices.Concat(l, []api.Pos{extra, other[0], extra}, other[1:], []api.Pos{extra})
		has(t, "P8.1: New of 4096, keys that aren't there, and such as are", index.New(more), want...)
	}
}

func TestPut(t *testing.T) {
	x := index.New(nil)
	one := api.Pos{Key: 7, Off: 16, Len: 3, Cookie: 5}
	puts(t, "P8.1: with none", x, one)
	has(t, "P8.1: Put with none", x, one)
	over := api.Pos{Key: 7, Off: 60, Gone: true}
	puts(t, "P8.1: of the one that is there", x, over)
	has(t, "P8.1: Put of the one that is there", x, over)
	puts(t, "P8.1: of the same again", x, over)
	has(t, "P8.1: Put of the same again", x, over)
	puts(t, "P8.1: of the elder one again", x, one)
	has(t, "P8.1: Put of the elder one again", x, one)
	for _, key := range []uint64{0, 6, 8, math.MaxUint64} {
		x, p := index.New([]api.Pos{one}), api.Pos{Key: key, Off: 99}
		puts(t, "P8.1: beside one", x, p)
		has(t, "P8.1: Put beside one", x, sorted([]api.Pos{one, p})...)
	}
}

func TestPutAtEachPlace(t *testing.T) {
	for i := range 40 {
		l := many(40)
		x := index.New(slices.Concat(l[:i], l[i+1:]))
		has(t, "P8.1: ahead of a Put", x, slices.Concat(l[:i], l[i+1:])...)
		puts(t, "P8.1: of one that isn't there", x, l[i])
		has(t, "P8.1: Put of one that isn't there", x, l...)
		other := moved(l[i : i+1])[0]
		puts(t, "P8.1: of one that is there", x, other)
		l[i] = other
		has(t, "P8.1: Put of one that is there", x, l...)
	}
}

func TestPutUpToItsMost(t *testing.T) {
	l := many(4096)
	for _, i := range []int{0, 1, 2047, 2048, 4094, 4095} {
		rest := slices.Concat(l[:i], l[i+1:])
		x := index.New(rest)
		over := moved(rest)
		puts(t, "P8.1: of what is there, with 4095", x, over...)
		has(t, "P8.1: Put of what is there, with 4095", x, over...)
		puts(t, "P8.1: with 4095", x, rest...)
		puts(t, "P8.1: of the 4096th", x, l[i])
		has(t, "P8.1: Put of the 4096th", x, l...)
		for _, key := range []uint64{0, 1, 3, l[i].Key - 1, l[i].Key + 1, l[4095].Key + 1, 1 << 62, math.MaxUint64} {
			is(t, fmt.Sprint("P8.1: Put of a 4097th key, ", key), x.Put(api.Pos{Key: key, Off: 16}), api.ErrFull)
		}
		has(t, "P8.1: Put of a 4097th key", x, l...)
		over = moved(l)
		puts(t, "P8.1: of what is there, with 4096", x, over...)
		has(t, "P8.1: Put of what is there, with 4096", x, over...)
		is(t, "P8.1: Put of a 4097th key once more", x.Put(api.Pos{}), api.ErrFull)
	}
	// One that is gone has its place all the same.
	for i := range l {
		l[i].Gone = true
	}
	is(t, "P8.1: Put of a 4097th key, all others gone", index.New(l).Put(api.Pos{Key: 1, Gone: true}), api.ErrFull)
}

func TestFind(t *testing.T) {
	for _, key := range []uint64{0, 1, 7, 1 << 32, math.MaxInt64, 1 << 63, math.MaxUint64} {
		none(t, "P8.1: of none", index.New(nil), key)
		// has looks for the keys beside it, too.
		for _, gone := range []bool{false, true} {
			p := api.Pos{Key: key, Off: 16, Gone: gone}
			has(t, "P8.1: Find", index.New([]api.Pos{p}), p)
		}
	}
	ends := []api.Pos{
		{Key: 0, Off: 1}, {Key: 1, Off: 2}, {Key: 3, Off: 3}, {Key: math.MaxInt64 - 1, Off: 4}, {Key: math.MaxInt64, Off: 5},
		{Key: 1 << 63, Off: 6}, {Key: math.MaxUint64 - 3, Off: 7}, {Key: math.MaxUint64 - 1, Off: 8}, {Key: math.MaxUint64, Off: 9},
	}
	for i := range 1 << len(ends) {
		var l []api.Pos
		for j, p := range ends {
			if i>>j&1 == 1 {
				l = append(l, p)
			}
		}
		x := index.New(l)
		has(t, "P8.1: Find about the ends", x, l...)
		for j, p := range ends {
			if i>>j&1 == 0 {
				none(t, "P8.1: Find about the ends", x, p.Key)
			}
		}
	}
}

func TestFrom(t *testing.T) {
	l := some()
	x := index.New(l)
	for key, at := range map[uint64]int{
		0: 0, 1: 0, 9: 0, 10: 0, 11: 1, 12: 2, 19: 2, 20: 2, 21: 3, 1 << 32: 3, math.MaxInt64: 3, 1 << 63: 3,
		1<<63 + 1: 4, math.MaxUint64: 4,
	} {
		for _, most := range []int{math.MinInt, math.MinInt32, -2, -1, 0} {
			alike(t, fmt.Sprint("P8.1: From ", key, ", at most ", most), x.From(key, most), nil)
		}
		rest := l[at:]
		for _, most := range []int{1, 2, 3, 4, 5, 4096, 4097, math.MaxInt32, 1 << 32, math.MaxInt - 1, math.MaxInt} {
			alike(t, fmt.Sprint("P8.1: From ", key, ", at most ", most), x.From(key, most), rest[:min(most, len(rest))])
		}
	}
	for _, key := range []uint64{0, 7, math.MaxUint64} {
		for _, most := range []int{math.MinInt, -1, 0, 1, math.MaxInt} {
			alike(t, "P8.1: From of none", index.New(nil).From(key, most), nil)
		}
	}
	ends := []api.Pos{{Key: 0, Off: 1}, {Key: math.MaxUint64, Off: 2}}
	x = index.New(ends)
	alike(t, "P8.1: From the smallest key", x.From(0, 2), ends)
	alike(t, "P8.1: From behind the smallest key", x.From(1, 2), ends[1:])
	alike(t, "P8.1: From the greatest key", x.From(math.MaxUint64, 2), ends[1:])
}

func TestFromOfMany(t *testing.T) {
	l := many(4096)
	x := index.New(l)
	// 4095 is five times 819: the last one is among them.
	for i := 0; i < len(l); i += 5 {
		p := l[i]
		for _, most := range []int{0, 1, 7, len(l) - i - 1, len(l) - i, len(l) - i + 1, math.MaxInt} {
			here := l[i:min(len(l), i+min(most, len(l)))]
			alike(t, "P8.1: From a key", x.From(p.Key, most), here)
			alike(t, "P8.1: From between two keys", x.From(p.Key-1, most), here)
		}
		alike(t, "P8.1: From behind a key", x.From(p.Key+1, math.MaxInt), l[i+1:])
	}
}

func TestLen(t *testing.T) {
	count := func(why string, x *index.Index, live, gone int) {
		t.Helper()
		if l, g := x.Len(); l != live || g != gone {
			t.Errorf("P8.1: Len %s: %d, %d; want %d, %d", why, l, g, live, gone)
		}
	}
	x := index.New(nil)
	count("of none", x, 0, 0)
	for i := range 5 {
		puts(t, "P8.1", x, api.Pos{Key: uint64(i)})
		count("of none that is gone", x, i+1, 0)
	}
	for i := range 5 {
		puts(t, "P8.1", x, api.Pos{Key: uint64(4 - i), Gone: true})
		count("of some that are gone", x, 4-i, i+1)
		puts(t, "P8.1", x, api.Pos{Key: uint64(4 - i), Off: 1, Gone: true})
		count("behind one put over one that is gone", x, 4-i, i+1)
	}
	puts(t, "P8.1", x, api.Pos{Key: 2})
	count("behind one put over one that was gone", x, 1, 4)
	puts(t, "P8.1", x, api.Pos{Key: 2, Len: 7})
	count("behind one put over one that wasn't gone", x, 1, 4)
	puts(t, "P8.1", x, api.Pos{Key: 9, Gone: true})
	count("behind one that was gone at once", x, 1, 5)
	count("of 4097, a third of them gone", index.New(many(4097)), 2731, 1365)
}

func TestClone(t *testing.T) {
	for _, n := range []int{0, 1, 2, 3, 100, 4095, 4096} {
		l := many(n)
		x := index.New(l)
		y := x.Clone()
		has(t, "P8.1: Clone", y, l...)
		apart(t, "P8.1: behind a change of the clone", y, x, l)
		x = index.New(l)
		apart(t, "P8.1: behind a change of what was cloned", x, x.Clone(), l)
		// It is no less when what was cloned had changed ahead of it.
		x = index.New(l)
		puts(t, "P8.1", x, moved(l)...)
		z := x.Clone()
		puts(t, "P8.1", x, l...)
		has(t, "P8.1: Clone behind a change", z, moved(l)...)
	}
}

// apart asks that changes of x, which has the positions l, as y has, are x's alone.
func apart(t *testing.T, why string, x, y *index.Index, l []api.Pos) {
	t.Helper()
	want := moved(l)
	puts(t, why, x, want...)
	has(t, why, x, want...)
	has(t, why, y, l...)
	more := []api.Pos{{Key: 0, Off: 99}, {Key: math.MaxUint64, Off: 99}}
	for _, p := range more {
		if len(want) < 4096 {
			puts(t, why, x, p)
			want = sorted(append(want, p))
		}
	}
	has(t, why, x, want...)
	has(t, why, y, l...)
	if len(l) < 4096 {
		puts(t, why, y, api.Pos{Key: 1, Off: 98})
		has(t, why, x, want...)
		has(t, why, y, sorted(append(slices.Clone(l), api.Pos{Key: 1, Off: 98}))...)
	}
}

// ways calls f with the positions in each order.
func ways(l []api.Pos, f func(l []api.Pos)) {
	var walk func(n int)
	walk = func(n int) {
		if n == len(l) {
			f(slices.Clone(l))
			return
		}
		for i := n; i < len(l); i++ {
			l[n], l[i] = l[i], l[n]
			walk(n + 1)
			l[n], l[i] = l[i], l[n]
		}
	}
	walk(0)
}

func TestTheOrderOfUnlikeKeysPlaysNoPart(t *testing.T) {
	l := append(some(), api.Pos{Key: 0, Off: 7}, api.Pos{Key: math.MaxUint64, Gone: true})
	want := sorted(l)
	ways(l, func(l []api.Pos) {
		has(t, "P8.2: New of "+told(l), index.New(l), want...)
		x := index.New(nil)
		puts(t, "P8.2", x, l...)
		has(t, "P8.2: Put of "+told(l), x, want...)
		x = index.New(l[:3])
		puts(t, "P8.2", x, l[3:]...)
		has(t, "P8.2: New and Put of "+told(l), x, want...)
		// That of one key does: the later one is its position, whatever stands between.
		x = index.New(moved(l))
		puts(t, "P8.2", x, l...)
		has(t, "P8.2: Put over "+told(l), x, want...)
	})
	for _, n := range []int{2, 3, 255, 4095, 4096} {
		want := many(n)
		for i, l := range orders(want) {
			x := index.New(nil)
			puts(t, "P8.2", x, l...)
			has(t, fmt.Sprint("P8.2: Put of ", n, ", order ", i), x, want...)
			has(t, fmt.Sprint("P8.2: New of ", n, ", order ", i), index.New(l), want...)
		}
	}
}

func TestWhatIsHandedInStays(t *testing.T) {
	for _, n := range []int{0, 1, 2, 3, 50, 4096, 4097} {
		for _, order := range append(orders(many(max(n, 1))), slices.Concat(many(n), moved(many(n)))) {
			room := slices.Concat(order, many(5))
			before := slices.Clone(room)
			list := room[:len(order)]
			x := index.New(list)
			want := x.All()
			puts(t, "R4", x, moved(want)...)
			x.Put(api.Pos{Key: 3})
			if !slices.Equal(room, before) {
				t.Fatalf("R4: New's list, or the room behind, was changed: %s", told(room))
			}
			x = index.New(list)
			clear(room)
			has(t, "R4: New's list was written over", x, want...)
		}
	}
}

func TestWhatIsToldIsTheCallers(t *testing.T) {
	for _, n := range []int{1, 2, 40, 4096} {
		l := many(n)
		x := index.New(l)
		lists := func() map[string][]api.Pos {
			return map[string][]api.Pos{
				"All": x.All(), "From": x.From(0, n), "From, greatest most": x.From(0, math.MaxInt),
				"From, a half": x.From(0, n/2), "From, the last": x.From(l[n-1].Key, 1), "From, behind": x.From(math.MaxUint64, n),
			}
		}
		want, kept := lists(), lists()
		for call, list := range lists() {
			clear(list[:cap(list)])
			_ = append(list, api.Pos{Key: 99})
			has(t, "R4: what "+call+" told was written over", x, l...)
		}
		one, _ := x.Find(l[0].Key)
		puts(t, "R4", x, moved(l)...)
		if one != l[0] {
			t.Errorf("R4: what Find told is the index's memory: %v", one)
		}
		for call, list := range kept {
			alike(t, "R4: "+call+" told the index's memory", list, want[call])
		}
	}
}

func TestNil(t *testing.T) {
	var x *index.Index
	for _, key := range []uint64{0, 1, 1 << 63, math.MaxUint64} {
		none(t, "P8.1: of nil", x, key)
		is(t, "P8.1: Put of nil", x.Put(api.Pos{Key: key}), api.ErrFull)
		for _, most := range []int{math.MinInt, -1, 0, 1, math.MaxInt} {
			alike(t, "P8.1: From of nil", x.From(key, most), nil)
		}
	}
	alike(t, "P8.1: All of nil", x.All(), nil)
	if live, gone := x.Len(); live != 0 || gone != 0 {
		t.Errorf("P8.1: Len of nil: %d, %d", live, gone)
	}
	y, z := x.Clone(), x.Clone()
	has(t, "P8.1: Clone of nil", y)
	puts(t, "P8.1: Clone of nil", y, some()...)
	has(t, "P8.1: Clone of nil", y, some()...)
	has(t, "P8.1: Clone of nil, another", z)
	none(t, "P8.1: nil behind a Clone", x, 10)
}

func TestOneThatNewDidNotMake(t *testing.T) {
	var x index.Index
	has(t, "P8.1: an Index that New didn't make", &x)
	has(t, "P8.1: its Clone", x.Clone())
	alike(t, "P8.1: its From", x.From(math.MaxUint64, 1), nil)
	for _, l := range orders(some()) {
		x := &index.Index{}
		puts(t, "P8.1: an Index that New didn't make", x, l...)
		has(t, "P8.1: an Index that New didn't make", x, some()...)
		has(t, "P8.1: its Clone", x.Clone(), some()...)
	}
	full := new(index.Index)
	puts(t, "P8.1: an Index that New didn't make", full, many(4096)...)
	is(t, "P8.1: Put of a 4097th key", full.Put(api.Pos{Key: 1}), api.ErrFull)
	has(t, "P8.1: an Index that New didn't make", full, many(4096)...)
}

func TestPositionsWithAnythingInThem(t *testing.T) {
	var l []api.Pos
	for i, n := range []int{math.MinInt, math.MinInt32, -1, 0, 1 << 24, 1<<24 + 1, math.MaxInt32, 1 << 32, math.MaxInt} {
		for j, cookie := range []uint32{0, 1 << 31, math.MaxUint32} {
			key := uint64(i*100 + j*10)
			l = append(l, api.Pos{Key: key, Off: n, Len: 7, Cookie: cookie}, api.Pos{Key: key + 1, Off: 16, Len: n, Gone: true},
				api.Pos{Key: key + 2, Off: n, Len: n, Cookie: cookie, Gone: true}, api.Pos{Key: key + 4, Off: -n, Len: n})
		}
	}
	// The index looks at keys alone: all of the rest is told as it came.
	for i, order := range orders(l) {
		has(t, fmt.Sprint("R1: New of positions that can't be, order ", i), index.New(order), l...)
		x := index.New(nil)
		puts(t, "R1", x, order...)
		has(t, fmt.Sprint("R1: Put of positions that can't be, order ", i), x, l...)
	}
}

func TestTwoIndexesAreApart(t *testing.T) {
	l := some()
	x, y := index.New(l), index.New(l)
	apart(t, "R6: behind a change of another index", x, y, l)
}
