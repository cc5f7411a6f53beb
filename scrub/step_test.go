package scrub_test

import (
	"errors"
	"fmt"
	"math"
	"slices"
	"testing"

	"corncrib/api"
	"corncrib/compact"
	"corncrib/disk"
	"corncrib/needle"
	"corncrib/scrub"
	"corncrib/vol"
)

// fault is a key that should be bad, and where that is told.
type fault struct {
	p    api.Pos
	code api.Code
	file string
}

// faults tells what should be bad of positions of a volume whose disk is up.
func faults(d *disk.Disk, v *vol.Vol, l []api.Pos) []fault {
	var bad []fault
	b, name := bytesOf(d, v), file(v)
	for _, p := range l {
		if code := wrong(b, p); code != 0 {
			bad = append(bad, fault{p, code, name})
		}
	}
	return bad
}

// listed asks that a list of what was bad is this one.
func listed(t *testing.T, why string, got []scrub.Bad, want []fault) {
	t.Helper()
	if len(got) != len(want) {
		t.Fatalf("%s: %d are bad: %v; want %v", why, len(got), got, want)
	}
	for i, f := range want {
		if got[i].P != f.p {
			t.Errorf("%s: %d: %+v; want %+v", why, i, got[i].P, f.p)
		}
		isAt(t, fmt.Sprintf("%s: %d", why, i), got[i].Err, f.code, f.file, f.p.Off)
	}
}

// has asks what a scrubber has found.
func has(t *testing.T, why string, s *scrub.Scrubber, seen int, bad []fault) {
	t.Helper()
	if n := s.Seen(); n != seen {
		t.Errorf("P12.2: %s: Seen %d; want %d", why, n, seen)
	}
	listed(t, "P12.2: "+why+": Bad", s.Bad(), bad)
}

// told asks what a step answers.
func told(t *testing.T, why string, s *scrub.Scrubber, n int, done bool, code api.Code) {
	t.Helper()
	got, e := s.Step(n)
	if got != done {
		t.Errorf("P12.1: %s: Step(%d): done %v; want %v", why, n, got, done)
	}
	is(t, fmt.Sprintf("P12.1: %s: Step(%d)", why, n), e, code)
}

// nothing are numbers of which no step does anything.
var nothing = []int{0, -1, math.MinInt, math.MinInt32}

// many are numbers of all sizes.
var many = []int{1, 2, 3, 4, 5, 6, 7, 8, 100, 4095, 4096, 4097, 1 << 31, 1 << 32, math.MaxInt - 1, math.MaxInt}

func TestNewOfNoVolume(t *testing.T) {
	s, e := scrub.New(nil)
	is(t, "P12.1: New of no volume", e, api.ErrNil)
	if s != nil {
		t.Errorf("P12.1: New of no volume: a scrubber")
	}
	l, e := scrub.All(nil)
	is(t, "P12.2: All of no volume", e, api.ErrNil)
	if len(l) != 0 {
		t.Errorf("P12.2: All of no volume: %v", l)
	}
}

func TestNew(t *testing.T) {
	each(t, func(kind string, d *disk.Disk, v *vol.Vol) {
		for _, p := range all(v) {
			must(t, d.Spoil(file(v), p.Off, 1))
		}
		was := seen(d, v)
		must(t, d.Arm(1))
		s, e := scrub.New(v)
		is(t, "P12.1: New "+kind, e, 0)
		has(t, "New "+kind, s, 0, nil)
		if d.Down() {
			t.Fatalf("P12.1: New %s did a deed", kind)
		}
		was.still(t, "P12.1: New "+kind, d, v)
		must(t, d.Arm(0))
		s, e = scrub.New(v)
		is(t, "P12.1: New of a disk that is down, "+kind, e, 0)
		has(t, "New of a disk that is down, "+kind, s, 0, nil)
	})
}

func TestNoScrubber(t *testing.T) {
	var s *scrub.Scrubber
	for range 2 {
		for _, n := range slices.Concat(nothing, many) {
			told(t, "of no scrubber", s, n, false, api.ErrNil)
		}
		has(t, "of no scrubber", s, 0, nil)
	}
}

// One that New didn't make ends as others do.
func TestAScrubberOfNobody(t *testing.T) {
	s := &scrub.Scrubber{}
	has(t, "of a scrubber of nobody", s, 0, nil)
	told(t, "of a scrubber of nobody", s, 0, false, api.ErrArg)
	told(t, "of a scrubber of nobody", s, 1, true, 0)
	told(t, "of a scrubber of nobody", s, 1, false, api.ErrDone)
	has(t, "of a scrubber of nobody", s, 0, nil)
}

// finished asks that a scrubber is done for good.
func finished(t *testing.T, why string, s *scrub.Scrubber, seen int, bad []fault) {
	t.Helper()
	for _, n := range slices.Concat(nothing, []int{1, 2, math.MaxInt}) {
		told(t, why+", and it is done", s, n, false, api.ErrDone)
		has(t, why+", and it is done", s, seen, bad)
	}
}

// goes does steps of these sizes, the last one again and again, till it should be
// done, and asks what there is behind each step.
func goes(t *testing.T, why string, d *disk.Disk, v *vol.Vol, sizes ...int) {
	t.Helper()
	l, s := all(v), sure(scrub.New(v))
	looked := 0
	for i := 0; ; i++ {
		n := sizes[min(i, len(sizes)-1)]
		why := fmt.Sprintf("%s, steps of %v, step %d", why, sizes, i+1)
		told(t, why, s, nothing[i%len(nothing)], false, api.ErrArg)
		has(t, why, s, looked, faults(d, v, l[:looked]))
		fewer := len(l)-looked < n
		looked = min(looked+min(n, len(l)), len(l))
		done := fewer || looked > 0 && l[looked-1].Key == greatest
		told(t, why, s, n, done, 0)
		has(t, why, s, looked, faults(d, v, l[:looked]))
		if done {
			finished(t, why, s, looked, faults(d, v, l[:looked]))
			return
		}
		if i > 2*len(l)+len(sizes) {
			t.Fatalf("P12.1: %s: it doesn't end", why)
		}
	}
}

// spoil turns a byte of those needles of a volume whose bits are set.
func spoil(t *testing.T, d *disk.Disk, v *vol.Vol, which uint64, off int) {
	t.Helper()
	for i, p := range all(v) {
		if which>>i&1 != 0 {
			must(t, d.Spoil(file(v), p.Off+off, 255))
		}
	}
}

// Steps of all sizes, whatever is bad.
func TestSteps(t *testing.T) {
	each(t, func(kind string, d *disk.Disk, v *vol.Vol) {
		for which := range uint64(1) << len(all(v)) {
			off := []int{0, 4, 9, 17, 24, 31}[which%6]
			spoil(t, d, v, which, off)
			was := seen(d, v)
			must(t, d.Arm(1))
			why := fmt.Sprintf("%s of which %b are spoilt", kind, which)
			for _, n := range many {
				goes(t, why, d, v, n)
			}
			goes(t, why, d, v, 1, 2, 1, 3, 1)
			goes(t, why, d, v, 2, 1, 2)
			goes(t, why, d, v, 3, 1)
			listed(t, "P12.2: All "+why, sure(scrub.All(v)), faults(d, v, was.l))
			if d.Down() {
				t.Fatalf("P12.1: %s: a deed was done", why)
			}
			was.still(t, "P12.1: "+why, d, v)
			spoil(t, d, v, which, off)
		}
	})
}

// With so many keys, and with the greatest one or without it: when it is done.
func TestEnds(t *testing.T) {
	for _, x := range []struct {
		keys []uint64
		n    int
		done []bool
	}{
		{nil, 1, []bool{true}},
		{nil, math.MaxInt, []bool{true}},
		{[]uint64{0}, 1, []bool{false, true}},
		{[]uint64{0}, 2, []bool{true}},
		{[]uint64{7}, 1, []bool{false, true}},
		{[]uint64{greatest}, 1, []bool{true}},
		{[]uint64{greatest}, 2, []bool{true}},
		{[]uint64{greatest - 1}, 1, []bool{false, true}},
		{[]uint64{0, greatest}, 1, []bool{false, true}},
		{[]uint64{0, greatest}, 2, []bool{true}},
		{[]uint64{0, greatest}, 3, []bool{true}},
		{[]uint64{0, 1}, 1, []bool{false, false, true}},
		{[]uint64{0, 1}, 2, []bool{false, true}},
		{[]uint64{0, 1}, 3, []bool{true}},
		{[]uint64{0, 1, 2}, 2, []bool{false, true}},
		{[]uint64{0, 1, greatest}, 2, []bool{false, true}},
		{[]uint64{0, 1, 2, greatest}, 2, []bool{false, true}},
		{[]uint64{0, 1, 2, greatest - 1}, 2, []bool{false, false, true}},
		{[]uint64{1 << 63, 1<<63 - 1, 1 << 32, 1<<32 - 1}, 3, []bool{false, true}},
	} {
		_, v := begun(t)
		for _, key := range x.keys {
			must(t, v.Put(blob(key, 3)))
		}
		s := sure(scrub.New(v))
		why := fmt.Sprintf("of the keys %v", x.keys)
		for i, done := range x.done {
			told(t, why, s, x.n, done, 0)
			if n := min((i+1)*min(x.n, 9), len(x.keys)); s.Seen() != n {
				t.Errorf("P12.2: %s: Seen %d; want %d", why, s.Seen(), n)
			}
		}
		finished(t, why, s, len(x.keys), nil)
	}
}

// As many keys as a volume may have.
func TestAFullVolume(t *testing.T) {
	for _, last := range []uint64{greatest, greatest - 1} {
		d, v := begun(t)
		var l []api.Pos
		b := super(3, 2)
		for i := range 4096 {
			n := dead(uint64(i))
			if i == 4095 {
				n.Key = last
			}
			l = append(l, api.Pos{Key: n.Key, Off: len(b), Cookie: n.Cookie, Gone: true})
			b += text(n)
		}
		laid(t, d, "v3.2", b)
		must(t, v.Commit(l, len(b)))
		for _, i := range []int{0, 1, 2047, 4094, 4095} {
			must(t, d.Spoil("v3.2", l[i].Off+16, 16))
		}
		goes(t, "of 4096 keys", d, v, 4096)
		goes(t, "of 4096 keys", d, v, 4095)
		goes(t, "of 4096 keys", d, v, 4097)
		goes(t, "of 4096 keys", d, v, 1, 2048, 2047)
		goes(t, "of 4096 keys", d, v, 1000)
		listed(t, "P12.2: All of 4096 keys", sure(scrub.All(v)), faults(d, v, l))
	}
}

// What is looked at is what the volume has at that step, of the keys behind the
// last one that was looked at.
func TestWorkBetweenSteps(t *testing.T) {
	d, v := begun(t, blob(10, 5), blob(20, 5), blob(30, 5))
	must(t, d.Spoil("v3.1", 16+40*2, 1), d.Spoil("v3.1", 16+40, 1))
	s := sure(scrub.New(v))
	told(t, "work between steps", s, 1, false, 0)
	has(t, "work between steps", s, 1, nil)
	// Ahead of it, and the last one itself: nobody comes back to them.
	must(t, v.Put(blob(5, 5)), v.Lay(dead(6)), v.Del(10, 110), d.Spoil("v3.1", 16+40*3, 1), d.Spoil("v3.1", 16+40*4, 1), d.Spoil("v3.1", 16+40*4+32, 1))
	// Just behind it, and behind others; what was spoilt is deleted, so that another
	// needle is the key's.
	must(t, v.Put(blob(11, 9)), v.Del(20, 120), v.Lay(dead(25)), v.Put(blob(40, 0)), v.Lay(blob(greatest, 3)))
	must(t, d.Spoil("v3.1", v.Info().Size-40+33, 2))
	told(t, "work between steps", s, 2, false, 0)
	has(t, "work between steps", s, 3, nil)
	told(t, "work between steps", s, 2, false, 0)
	bad := []fault{{api.Pos{Key: 30, Off: 96, Len: 5, Cookie: 130}, api.ErrForm, "v3.1"}}
	has(t, "work between steps", s, 5, bad)
	// What was told stays, though it is mended, deleted, or another one is spoilt.
	must(t, d.Spoil("v3.1", 96, 1), v.Del(30, 130), d.Spoil("v3.1", all(v)[3].Off, 1))
	has(t, "work between steps", s, 5, bad)
	must(t, v.Put(blob(35, 1)))
	told(t, "work between steps", s, 1, false, 0)
	has(t, "work between steps", s, 6, bad)
	told(t, "work between steps", s, 2, true, 0)
	last := all(v)[len(all(v))-1]
	bad = append(bad, fault{last, api.ErrSum, "v3.1"})
	has(t, "work between steps", s, 8, bad)
	must(t, v.Put(blob(100, 1)))
	finished(t, "work between steps", s, 8, bad)
}

// It isn't done as long as there may be keys behind: they may come.
func TestKeysThatComeAtTheEnd(t *testing.T) {
	_, v := begun(t, blob(7, 5))
	s := sure(scrub.New(v))
	for i := range 5 {
		told(t, "keys that come at the end", s, 1, false, 0)
		has(t, "keys that come at the end", s, i+1, nil)
		must(t, v.Put(blob(uint64(8+i), 1)))
	}
	told(t, "keys that come at the end", s, 2, true, 0)
	has(t, "keys that come at the end", s, 6, nil)
	must(t, v.Put(blob(77, 1)))
	finished(t, "keys that come at the end", s, 6, nil)
	// Done of a volume without keys, it stays done.
	_, v = begun(t)
	s = sure(scrub.New(v))
	told(t, "of a new volume", s, 1, true, 0)
	must(t, v.Put(blob(7, 5)))
	finished(t, "of a new volume", s, 0, nil)
	// The key 0 may come ahead of the first step, the greatest one at any time.
	s = sure(scrub.New(v))
	must(t, v.Put(blob(0, 5)))
	told(t, "of the key 0", s, 1, false, 0)
	told(t, "of the key 0", s, 1, false, 0)
	must(t, v.Put(blob(1, 5)), v.Put(blob(greatest, 5)))
	told(t, "of the key 0", s, 1, true, 0)
	finished(t, "of the key 0", s, 3, nil)
}

// A compaction takes needles elsewhere, and to a file of another name.
func TestCompactionBetweenSteps(t *testing.T) {
	for gap := range 5 {
		d, v := begun(t, blob(9, 5), blob(7, 9), dead(9), blob(8, 3), blob(6, 1))
		for _, p := range all(v) {
			must(t, d.Spoil("v3.1", p.Off+24, 1))
		}
		s := sure(scrub.New(v))
		var want []fault
		look := func(n int) {
			for _, p := range all(v)[len(want) : len(want)+n] {
				want = append(want, fault{p, api.ErrSum, file(v)})
			}
			for range n {
				told(t, "a compaction between steps", s, 1, false, 0)
			}
			has(t, "a compaction between steps", s, len(want), want)
		}
		look(gap)
		for _, p := range all(v) {
			must(t, d.Spoil("v3.1", p.Off+24, 1))
		}
		must(t, compact.Run(d, v))
		for _, p := range all(v) {
			must(t, d.Spoil("v3.2", p.Off+24, 1))
		}
		has(t, "behind a compaction", s, len(want), want)
		look(4 - gap)
		told(t, "a compaction between steps", s, 1, true, 0)
		finished(t, "a compaction between steps", s, 4, want)
		listed(t, "P12.2: All behind a compaction", sure(scrub.All(v)), faults(d, v, all(v)))
	}
}

// A Commit may tell positions of which no needle can be: they are bad, and no
// more than that.
func TestPositionsThatCannotBe(t *testing.T) {
	d, v := begun(t, blob(7, 5))
	laid(t, d, "v3.2", super(3, 2)+text(blob(7, 5), blob(8, 5)))
	l := []api.Pos{
		{Key: 0, Off: -1}, {Key: 1, Off: math.MinInt, Len: 5}, {Key: 2, Off: math.MaxInt, Len: 4096}, {Key: 3, Len: -1}, {Key: 4, Off: 16, Len: 4097},
		{Key: 5, Off: math.MaxInt, Len: math.MaxInt}, {Key: 6, Off: 16, Len: math.MinInt}, {Key: 7, Off: 16, Len: 5, Cookie: 107}, {Key: 8, Off: 16, Len: 5, Cookie: 108},
		{Key: 9, Off: 56, Len: 5, Cookie: 108}, {Key: 107, Off: 16, Len: 5, Cookie: 7, Gone: true}, {Key: greatest, Off: 97},
	}
	must(t, v.Commit(l, 96))
	goes(t, "of positions that can't be", d, v, 1)
	goes(t, "of positions that can't be", d, v, 5)
	goes(t, "of positions that can't be", d, v, 12)
	bad := sure(scrub.All(v))
	var codes []api.Code
	for _, b := range bad {
		for code := api.ErrArg; code <= api.ErrWait; code++ {
			if errors.Is(b.Err, code) {
				codes = append(codes, code)
			}
		}
	}
	if want := []api.Code{1, 1, 3, 3, 3, 3, 3, 4, 4, 4, 3}; !slices.Equal(codes, want) {
		t.Errorf("P12.2: All of positions that can't be: %v; want %v", codes, want)
	}
}

// On a disk that is down each key is bad; no step tells that as its own error.
func TestADiskThatFails(t *testing.T) {
	d, v := begun(t, blob(7, 5), dead(8), blob(9, 3), dead(greatest))
	l := all(v)
	told7 := func(code api.Code, l []api.Pos) []fault {
		var bad []fault
		for _, p := range l {
			bad = append(bad, fault{p, code, "v3.1"})
		}
		return bad
	}
	s := sure(scrub.New(v))
	told(t, "ahead of the disk's fall", s, 1, false, 0)
	must(t, d.SyncNames(), d.Arm(0))
	told(t, "of a disk that is down", s, 0, false, api.ErrArg)
	told(t, "of a disk that is down", s, 1, false, 0)
	has(t, "of a disk that is down", s, 2, told7(api.ErrDown, l[1:2]))
	listed(t, "P12.2: All of a disk that is down", sure(scrub.All(v)), told7(api.ErrDown, l))
	must(t, d.Crash(disk.Picks{}))
	has(t, "behind the crash", s, 2, told7(api.ErrDown, l[1:2]))
	told(t, "behind the crash", s, 2, true, 0)
	finished(t, "behind the crash", s, 4, told7(api.ErrDown, l[1:2]))
	listed(t, "P12.2: All behind the crash", sure(scrub.All(v)), nil)
	must(t, d.Remove("v3.1"))
	listed(t, "P12.2: All without the data file", sure(scrub.All(v)), told7(api.ErrNone, l))
	_, v = begun(t)
	listed(t, "P12.2: All of a new volume", sure(scrub.All(v)), nil)
}

// A file that is cut: what stands ahead of the cut is whole.
func TestACutFile(t *testing.T) {
	_, v := begun(t, blob(9, 5), dead(7), blob(8, 9))
	for n := range v.Info().Size {
		d, v := begun(t, blob(9, 5), dead(7), blob(8, 9))
		must(t, d.Cut("v3.1", n))
		goes(t, fmt.Sprintf("of a file that is cut to %d bytes", n), d, v, 1)
		for _, b := range sure(scrub.All(v)) {
			is(t, fmt.Sprintf("P12.2: All of a file that is cut to %d bytes", n), b.Err, api.ErrShort)
		}
	}
}

// rub writes over all that was told, and over the room behind it.
func rub(l []scrub.Bad) {
	l = l[:cap(l)]
	for i := range l {
		var at *api.At
		if errors.As(l[i].Err, &at) {
			*at = api.At{File: "x", Off: -7, Err: api.ErrBusy}
		}
		l[i] = scrub.Bad{P: api.Pos{Key: 77}, Err: api.ErrFull}
	}
}

// What Bad and All tell is the caller's.
func TestWhatIsToldIsTheCallers(t *testing.T) {
	d, v := begun(t, blob(7, 5), dead(8), blob(9, 3), dead(10))
	spoil(t, d, v, 0b1011, 9)
	s := sure(scrub.New(v))
	looked := 0
	for _, n := range []int{1, 1, 2} {
		told(t, "what is told", s, n, false, 0)
		looked += n
		want := faults(d, v, all(v)[:looked])
		for range 3 {
			one, two := s.Bad(), s.Bad()
			listed(t, "P12.2: Bad, the first time", one, want)
			rub(one)
			listed(t, "P12.2: Bad, the second time, behind the first one's end", two, want)
			_ = append(s.Bad(), scrub.Bad{Err: api.ErrArg})
			has(t, "Bad, once more", s, looked, want)
		}
	}
	one, two := sure(scrub.All(v)), sure(scrub.All(v))
	rub(one)
	listed(t, "P12.2: All, the second time", two, faults(d, v, all(v)))
	rub(two)
	has(t, "behind all", s, 4, faults(d, v, all(v)))
	// What was told ahead of a step isn't touched by it.
	s = sure(scrub.New(v))
	told(t, "what is told", s, 1, false, 0)
	first := s.Bad()
	told(t, "what is told", s, 9, true, 0)
	listed(t, "P12.2: Bad ahead of a step, behind it", first, faults(d, v, all(v)[:1]))
}

// Scrubbers of one volume, and of two, know nothing of each other.
func TestTwoScrubbers(t *testing.T) {
	d, v := begun(t, blob(7, 5), dead(8), blob(9, 3))
	spoil(t, d, v, 0b101, 0)
	w := sure(vol.Make(d, 4, plenty, 0))
	must(t, w.Put(blob(8, 5)), d.Spoil("v4.1", 17, 1))
	a, b, c := sure(scrub.New(v)), sure(scrub.New(v)), sure(scrub.New(w))
	told(t, "the first scrubber", a, 2, false, 0)
	told(t, "the second scrubber", b, 1, false, 0)
	told(t, "the third scrubber", c, 2, true, 0)
	told(t, "the first scrubber", a, 2, true, 0)
	has(t, "the first scrubber", a, 3, faults(d, v, all(v)))
	has(t, "the second scrubber", b, 1, faults(d, v, all(v)[:1]))
	has(t, "the third scrubber", c, 1, faults(d, w, all(w)))
	told(t, "the second scrubber", b, 1, false, 0)
	has(t, "the second scrubber", b, 2, faults(d, v, all(v)[:1]))
}

// What isn't bad is got; a blob that is bad isn't. What is gone is gone, whether
// its needle is bad or not.
func TestItFollows(t *testing.T) {
	each(t, func(kind string, d *disk.Disk, v *vol.Vol) {
		l := all(v)
		for _, off := range []int{0, 4, 8, 15, 16, 20, 21, 22, 24, 28, 31} {
			for which := range uint64(1) << len(l) {
				spoil(t, d, v, which, off)
				follows(t, fmt.Sprintf("%s, with %b spoilt at %d", kind, which, off), v, which)
				spoil(t, d, v, which, off)
			}
		}
		for _, p := range l {
			for i := range len(text(api.Needle{Data: make([]byte, p.Len)})) {
				if i > 100 {
					break
				}
				must(t, d.Spoil(file(v), p.Off+i, 128))
				follows(t, fmt.Sprintf("%s, with byte %d of %d spoilt", kind, i, p.Key), v, 1<<slices.Index(l, p))
				must(t, d.Spoil(file(v), p.Off+i, 128))
			}
		}
		must(t, d.Arm(0))
		follows(t, kind+", on a disk that is down", v, 1<<len(l)-1)
	})
}

// follows asks that a scrubber finds just those bad whose bits are set, and that
// what is got says the same.
func follows(t *testing.T, why string, v *vol.Vol, which uint64) {
	t.Helper()
	bad := map[uint64]bool{}
	for _, b := range sure(scrub.All(v)) {
		bad[b.P.Key] = true
		if scrub.Look(v, b.P) == nil {
			t.Errorf("P12.2: %s: Look of %+v, which is bad: nothing", why, b.P)
		}
	}
	for i, p := range all(v) {
		n, e := v.Get(p.Key, p.Cookie)
		switch spoilt := which>>i&1 != 0; {
		case spoilt != bad[p.Key]:
			t.Errorf("P12.3: %s: %+v is bad: %v", why, p, bad[p.Key])
		case p.Gone:
			is(t, "P12.3: "+why+": Get of what is gone", e, api.ErrGone)
		case spoilt:
			if e == nil {
				t.Errorf("P12.3: %s: Get of %+v, which is bad: %v", why, p, n)
			}
		case e != nil || !needle.Same(n, blob(p.Key, p.Len)):
			t.Errorf("P12.3: %s: Get of %+v, which isn't bad: %v, %v", why, p, n, e)
		}
	}
}

// The chapter's example.
func TestExample(t *testing.T) {
	d := sure(disk.New(1 << 20))
	v := sure(vol.Make(d, 3, 1<<20, 0))
	l, e := scrub.All(v)
	is(t, "P12.2: All of a new volume", e, 0)
	if len(l) != 0 {
		t.Errorf("P12.2: All of a new volume: %v", l)
	}
}
