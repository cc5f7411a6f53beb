package compact_test

import (
	"errors"
	"fmt"
	"slices"
	"testing"

	"corncrib/api"
	"corncrib/ckpt"
	"corncrib/compact"
	"corncrib/disk"
	"corncrib/needle"
	"corncrib/vol"
)

// ground is what a volume has ahead of the work: three positions, by their places
// of the keys 7, 8 and 9, of which 8 is gone.
var ground = []api.Needle{blob(7, 5), blob(8, 9), dead(8), blob(9, 20)}

// work is what a volume may do between two steps, and stay of its generation.
type work struct {
	do    func(v *vol.Vol) error
	ousts []uint64 // the keys that have another position behind it
	lays  []api.Needle
}

var works = map[string]work{
	"Put":                  {func(v *vol.Vol) error { return v.Put(blob(20, 30)) }, nil, []api.Needle{blob(20, 30)}},
	"Put of a low key":     {func(v *vol.Vol) error { return v.Put(blob(1, 0)) }, nil, []api.Needle{blob(1, 0)}},
	"Del of the first one": {func(v *vol.Vol) error { return v.Del(7, 107) }, []uint64{7}, []api.Needle{dead(7)}},
	"Del of the last one":  {func(v *vol.Vol) error { return v.Del(9, 109) }, []uint64{9}, []api.Needle{dead(9)}},
	"Lay of gone, and Del": {func(v *vol.Vol) error { return errors.Join(v.Lay(dead(7)), v.Del(9, 109)) }, []uint64{7, 9}, []api.Needle{dead(7), dead(9)}},
	"Lay of what is there": {func(v *vol.Vol) error { return errors.Join(v.Lay(blob(7, 5)), v.Lay(dead(8)), v.Lay(blob(8, 9))) }, nil, nil},
	"Lay":                  {func(v *vol.Vol) error { return v.Lay(blob(21, 0)) }, nil, []api.Needle{blob(21, 0)}},
	"Lay of one gone":      {func(v *vol.Vol) error { return v.Lay(dead(22)) }, nil, []api.Needle{dead(22)}},
	"Set":                  {func(v *vol.Vol) error { return v.Set(v.Info().Epoch+1, false) }, nil, nil},
	"Set, sealed":          {func(v *vol.Vol) error { return v.Set(v.Info().Epoch, true) }, nil, nil},
	"Put, and its Del":     {func(v *vol.Vol) error { return errors.Join(v.Put(blob(23, 9)), v.Del(23, 123)) }, nil, []api.Needle{dead(23)}},
	"nothing that is done": {func(v *vol.Vol) error {
		for _, e := range []error{v.Put(blob(7, 5)), v.Del(8, 108), v.Set(1, false), v.Commit(nil, 9999), v.Lay(api.Needle{Key: 7})} {
			if e == nil {
				return api.ErrBusy
			}
		}
		return nil
	}, nil, nil},
}

// newest tells what of the ground is the newest of its key still, and what was
// laid behind it.
func (w work) newest() []api.Needle {
	l := []api.Needle{ground[0], ground[2], ground[3]}
	l = slices.DeleteFunc(l, func(n api.Needle) bool { return slices.Contains(w.ousts, n.Key) })
	return append(l, w.lays...)
}

// Work behind so many steps: what is copied by then stays so, what isn't copied
// any more isn't, and what is new comes with the last step.
func TestWorkBetweenSteps(t *testing.T) {
	for what, w := range works {
		for gap := range 5 {
			why := fmt.Sprintf("P11.1: %s behind %d steps", what, gap)
			d, v := begun(t, ground...)
			c := ahead(t, d, v, gap)
			must(t, w.do(v))
			was, n := seen(v), 4-gap
			if gap == 0 {
				told(t, why, c, false, 0)
				n = len(was.l)
			}
			for ; n > 0; n-- {
				left(t, why, c, n)
				told(t, why, c, false, 0)
			}
			left(t, why, c, 0)
			want := behind(d, v)
			if got := super(3, 2) + text(w.newest()...); want["v3.2"] != got {
				t.Fatalf("%s: %q; want %q", why, want["v3.2"], got)
			}
			least := compact.Least(v)
			told(t, why+", the last step", c, true, 0)
			has(t, why, d, want)
			keeps(t, why, v, was)
			if i := v.Info(); i.Gen != 2 || i.Size != least {
				t.Errorf("%s: %+v; want size %d", why, i, least)
			}
			finished(t, why, d, c)
			must(t, d.Crash(disk.Picks{}))
			has(t, why+", and a crash", d, want)
			opens(t, why, d, was)
		}
	}
}

// The same, and what the file is behind each step.
func TestTheFileBehindWork(t *testing.T) {
	all := []api.Needle{ground[0], ground[2], ground[3]}
	for what, w := range works {
		for gap := 1; gap < 5; gap++ {
			d, v := begun(t, ground...)
			c := ahead(t, d, v, gap)
			must(t, w.do(v))
			copies := slices.Clone(all[:gap-1])
			for i, n := range all[gap-1:] {
				why := fmt.Sprintf("P11.1: %s behind %d steps, step %d", what, gap, gap+i+1)
				told(t, why, c, false, 0)
				if !slices.Contains(w.ousts, n.Key) {
					copies = append(copies, n)
				}
				if got, want := files(d)["v3.2"], super(3, 2)+text(copies...); got != want {
					t.Errorf("%s: %q; want %q", why, got, want)
				}
			}
		}
	}
}

// lastDeeds tells what the file of the next generation is behind each deed of a
// last step.
func lastDeeds(t *testing.T, begin func() (*disk.Disk, *vol.Vol, *compact.Compactor)) []string {
	t.Helper()
	var l []string
	for n := 0; ; n++ {
		d, v, c := begin()
		_, next, _ := names(v)
		must(t, d.Arm(n))
		_, e := c.Step()
		down := d.Down()
		must(t, d.Crash(every(99, disk.Pick{Keep: 1 << 20})))
		l = append(l, files(d)[next])
		if e == nil && !down {
			return l
		}
	}
}

// If a needle that was copied isn't the newest of its key any more the file is cut
// behind its superblock, and all are copied; else just the others are.
func TestTheLastStep(t *testing.T) {
	for what, w := range works {
		for gap := 1; gap < 5; gap++ {
			why := fmt.Sprintf("P11.1: %s behind %d steps, the last step", what, gap)
			copies := []api.Needle{ground[0], ground[2], ground[3]}
			// Up to the gap all are copied, behind it those that are the newest still.
			cut := slices.ContainsFunc(copies[:gap-1], func(n api.Needle) bool { return slices.Contains(w.ousts, n.Key) })
			copies = slices.Concat(copies[:gap-1], slices.DeleteFunc(slices.Clone(copies[gap-1:]), func(n api.Needle) bool { return slices.Contains(w.ousts, n.Key) }))
			got := lastDeeds(t, func() (*disk.Disk, *vol.Vol, *compact.Compactor) {
				d, v := begun(t, ground...)
				c := ahead(t, d, v, gap)
				must(t, w.do(v))
				for range c.Left() {
					told(t, why, c, false, 0)
				}
				return d, v, c
			})
			want := []string{super(3, 2) + text(copies...)}
			rest := w.lays
			if cut {
				want = append(want, super(3, 2))
				rest = w.newest()
			}
			for _, n := range rest {
				want = append(want, want[len(want)-1]+text(n))
			}
			// It is synced; then come the seven deeds of a Commit, and one that is more
			// than it needs.
			for range 9 {
				want = append(want, want[len(want)-1])
			}
			if !slices.Equal(got, want) {
				t.Errorf("%s: %.999q; want %.999q", why, got, want)
			}
		}
	}
}

func TestWorkBetweenAllSteps(t *testing.T) {
	d, v := begun(t, ground...)
	c := ahead(t, d, v, 0)
	var last uint64
	for i := range 5 {
		must(t, v.Put(blob(uint64(30+i), i)), v.Lay(dead(uint64(60+i))), v.Set(6+i, i%2 == 1), v.Lay(blob(uint64(90+i), 9)), v.Set(6+i, false))
		if i > 0 {
			must(t, v.Del(uint64(29+i), uint32(129+i)))
		}
		last = uint64(30 + i)
		told(t, "P11.1: work between all steps", c, false, 0)
	}
	for c.Left() > 0 {
		told(t, "P11.1: work between all steps", c, false, 0)
		must(t, v.Del(last, uint32(last)+100), v.Put(blob(last+200, 3)))
		last += 200
	}
	was, want := seen(v), behind(d, v)
	least := compact.Least(v)
	told(t, "P11.1: work between all steps", c, true, 0)
	has(t, "P11.1: work between all steps", d, want)
	keeps(t, "P11.3: work between all steps", v, was)
	if v.Info().Size != least {
		t.Errorf("P11.3: work between all steps: size %d; want %d", v.Info().Size, least)
	}
	must(t, d.Crash(disk.Picks{}))
	opens(t, "P11.3: work between all steps", d, was)
}

// A step of a position that isn't the newest any more does nothing, also on a
// disk that does nothing.
func TestAStepOfAnElderPosition(t *testing.T) {
	d, v := begun(t, ground...)
	c := ahead(t, d, v, 1)
	must(t, v.Del(7, 107), d.Spoil("v3.1", 20, 255), d.Arm(0))
	told(t, "P11.1: of an elder position", c, false, 0)
	left(t, "P11.1: of an elder position", c, 2)
	told(t, "P11.1: of one that is the newest", c, false, api.ErrDown)
	left(t, "P11.1: of one that is the newest", c, 0)
}

// commits are what a Commit may come to behind which the volume is of another
// generation.
var commits = map[string]func(d *disk.Disk, v *vol.Vol) error{
	"Commit":      byHand,
	"two Commits": func(d *disk.Disk, v *vol.Vol) error { return errors.Join(byHand(d, v), byHand(d, v)) },
	"two Commits, and a file": func(d *disk.Disk, v *vol.Vol) error {
		return errors.Join(byHand(d, v), byHand(d, v), laidOn(d, "v3.2", "junk"))
	},
	"three Commits, and files": func(d *disk.Disk, v *vol.Vol) error {
		return errors.Join(byHand(d, v), byHand(d, v), byHand(d, v), laidOn(d, "v3.2", ""), laidOn(d, "v3.3", ""), laidOn(d, "v3.5", ""), laidOn(d, "v3.1", ""))
	},
	"Commit and work": func(d *disk.Disk, v *vol.Vol) error {
		return errors.Join(byHand(d, v), v.Put(blob(20, 1)), v.Del(7, 107))
	},
	"Run":     compact.Run,
	"two Run": func(d *disk.Disk, v *vol.Vol) error { return errors.Join(compact.Run(d, v), compact.Run(d, v)) },
	"a Commit whose end is an error": func(d *disk.Disk, v *vol.Vol) error {
		if slices.Contains(d.Names(), "v3.2") {
			if e := d.Remove("v3.2"); e != nil {
				return e
			}
		}
		s, l := fresh(d, v)
		if e := errors.Join(laidOn(d, "v3.2", s), d.Remove("v3.1")); e != nil {
			return e
		}
		if e := v.Commit(l, len(s)); !errors.Is(e, api.ErrNone) {
			return api.ErrBusy
		}
		// It is of the generation all the same.
		return d.SyncNames()
	},
}

func TestCommitBetweenSteps(t *testing.T) {
	for what, commit := range commits {
		for gap := range 6 {
			for _, down := range []bool{false, true} {
				why := fmt.Sprintf("P11.1: %s behind %d steps, down %v", what, gap, down)
				d, v := begun(t, ground...)
				c := ahead(t, d, v, min(gap, 4))
				if gap == 5 {
					told(t, why, c, true, 0)
					// Its commits are of later generations then.
					if what != "Run" && what != "two Run" {
						continue
					}
				}
				must(t, commit(d, v))
				before, was := files(d), seen(v)
				if down {
					must(t, d.SyncNames(), d.Arm(0))
				}
				switch {
				case gap == 5:
					told(t, why, c, false, api.ErrDone)
				case gap > 0:
					// Whether the disk does it or not. What is the volume's stays.
					told(t, why, c, false, api.ErrStale)
					if !down && v.Info().Gen != 2 {
						before = without(before, "v3.2")
					}
				case down:
					told(t, why, c, false, api.ErrDown)
				default:
					before = behind(d, v)
					told(t, why, c, false, 0)
					ends(t, why, c)
				}
				for range 2 {
					left(t, why, c, 0)
					told(t, why+", and one more step", c, false, api.ErrDone)
				}
				must(t, d.Crash(every(99, disk.Pick{Keep: 1 << 20})))
				has(t, why, d, before)
				finished(t, why, d, c)
				w := opens(t, why, d, was)
				if gap > 0 && !seen(w).same(was) {
					t.Errorf("%s: Open: %+v; want %+v", why, seen(w), was)
				}
			}
		}
	}
}

// A stale step does one deed, if the file is there, and none, if it isn't;
// whoever's the file is, and whatever is in it.
func TestStaleStep(t *testing.T) {
	for gap := 1; gap < 5; gap++ {
		for _, file := range []string{"-", "", "junk", super(3, 2)} {
			why := fmt.Sprintf("P11.1: a stale step behind %d steps, with %q", gap, file)
			d, v := begun(t, ground...)
			c := ahead(t, d, v, gap)
			must(t, byHand(d, v), byHand(d, v))
			laid(t, d, "v3.4", "new")
			laid(t, d, "v3.1", "left")
			before, was := files(d), seen(v)
			if file != "-" {
				laid(t, d, "v3.2", file)
			}
			must(t, d.Arm(2))
			told(t, why, c, false, api.ErrStale)
			has(t, why, d, before)
			// A deed of it and one of this, or two of this, and it is down.
			if file == "-" {
				must(t, d.SyncNames())
			}
			must(t, d.SyncNames())
			if !d.Down() {
				t.Errorf("%s: it did too few deeds", why)
			}
			must(t, d.Crash(disk.Picks{}))
			has(t, why+", and a crash", d, before)
			finished(t, why, d, c)
			opens(t, why, d, was)
		}
	}
	// A stale step syncs no names: a crash may bring the file back.
	d, v := begun(t, ground...)
	c := ahead(t, d, v, 2)
	must(t, byHand(d, v), byHand(d, v))
	laid(t, d, "v3.2", "junk")
	before, was := files(d), seen(v)
	told(t, "P11.1: a stale step", c, false, api.ErrStale)
	must(t, d.Crash(disk.Picks{}))
	has(t, "P11.1: a stale step, and a crash", d, before)
	opens(t, "P11.3: a stale step, and a crash", d, was)
}

// Of the errors that could be told the first one is told.
func TestOrderOfErrors(t *testing.T) {
	// Of a compactor that is over, of a stale volume, on a disk that is down.
	d, v := begun(t, ground...)
	over, stale, done, first := ahead(t, d, v, 1), ahead(t, d, v, 1), ahead(t, d, v, 1), ahead(t, d, v, 0)
	must(t, d.Remove("v3.2"))
	told(t, "P11.1: without its file", over, false, api.ErrNone)
	done = ahead(t, d, v, 1)
	ends(t, "P11.1: all steps", done)
	must(t, d.Arm(0))
	told(t, "P11.1: over, stale and down", over, false, api.ErrDone)
	told(t, "P11.1: done, stale and down", done, false, api.ErrDone)
	told(t, "P11.1: stale and down", stale, false, api.ErrStale)
	told(t, "P11.1: over, stale and down", stale, false, api.ErrDone)
	told(t, "P11.1: ahead of the first step, and down", first, false, api.ErrDown)
	// Stale, and the disk is full, or the needle is spoilt, or the file isn't there.
	for what, harm := range map[string]func(d *disk.Disk) error{
		"a full disk":        func(d *disk.Disk) error { return laidOn(d, "x", string(make([]byte, plenty-d.Used()))) },
		"a spoilt needle":    func(d *disk.Disk) error { return d.Spoil("v3.2", 20, 255) },
		"no file":            func(d *disk.Disk) error { return d.Remove("v3.2") },
		"a file that is cut": func(d *disk.Disk) error { return d.Cut("v3.2", 0) },
	} {
		d, v := begun(t, ground...)
		stale := ahead(t, d, v, 2)
		must(t, byHand(d, v), harm(d))
		before := files(d)
		told(t, "P11.1: stale, and "+what, stale, false, api.ErrStale)
		has(t, "P11.1: stale, and "+what, d, before)
	}
	// A spoilt needle, and a disk that is down: it isn't read at all. If the disk is
	// full it is: what is spoilt isn't written.
	d, v = begun(t, ground...)
	a, b := ahead(t, d, v, 0), ahead(t, d, v, 1)
	must(t, d.Spoil("v3.1", 20, 255), laidOn(d, "x", string(make([]byte, plenty-d.Used()))))
	must(t, d.SyncNames(), d.Arm(0))
	told(t, "P11.1: ahead of the first step, spoilt and down", a, false, api.ErrDown)
	told(t, "P11.1: spoilt and down", b, false, api.ErrDown)
	must(t, d.Crash(disk.Picks{}), d.Cut("x", 0))
	b = ahead(t, d, v, 1)
	must(t, d.Append("x", make([]byte, plenty-d.Used())))
	told(t, "P11.1: spoilt and full", b, false, api.ErrForm)
	// Ahead of the first step a full disk has no room for the superblock.
	must(t, d.Append("x", make([]byte, plenty-d.Used())))
	told(t, "P11.1: the first step, spoilt and full", ahead(t, d, v, 0), false, api.ErrFull)
}

// A compactor that is over, or done, is over for good: another one goes on.
func TestAnotherCompactor(t *testing.T) {
	d, v := begun(t, ground...)
	was := seen(v)
	a, b := ahead(t, d, v, 2), ahead(t, d, v, 2)
	must(t, byHand(d, v))
	told(t, "P11.1: a stale step", a, false, api.ErrStale)
	must(t, compact.Run(d, v))
	want := files(d)
	finished(t, "P11.1: the stale compactor", d, a)
	told(t, "P11.1: the other stale compactor", b, false, api.ErrStale)
	has(t, "P11.1: stale compactors", d, want)
	must(t, d.Crash(disk.Picks{}))
	if v := opens(t, "P11.3: behind stale compactors", d, was); v.Info().Gen != 3 {
		t.Errorf("P11.3: behind stale compactors: %+v", v.Info())
	}
}

// A checkpoint's writer beside a compactor: each does its steps; once the volume
// is of another generation the writer is stale, and no checkpoint is left.
func TestBesideACheckpoint(t *testing.T) {
	for _, order := range orders(5, 5) {
		why := "P11.1: a compactor (0) and a writer (1): " + order
		d, v := begun(t, ground...)
		was := seen(v)
		c := ahead(t, d, v, 0)
		w := sure(ckpt.New(d, v))
		steps := 0
		gen := 0
		for _, x := range order {
			if x == '0' {
				steps++
				told(t, why, c, steps == 5, 0)
				continue
			}
			if gen == 0 {
				gen = v.Info().Gen
			}
			done, e := w.Step()
			switch {
			case gen == v.Info().Gen:
				is(t, why, e, 0)
			case done || !errors.Is(e, api.ErrStale) && !errors.Is(e, api.ErrDone):
				t.Errorf("%s: the writer: %v, %v", why, done, e)
			}
		}
		keeps(t, why, v, was)
		data, _, point := names(v)
		want := []string{"m3", data}
		if gen == 2 {
			want = append([]string{point}, want...)
		}
		if got := d.Names(); gen != 1 && !slices.Equal(got, want) {
			t.Errorf("%s: %v; want %v", why, got, want)
		}
		must(t, d.Crash(disk.Picks{}))
		opens(t, why, d, was)
	}
}

// What is got behind a compaction is what was put, byte by byte.
func TestBytesOfCopies(t *testing.T) {
	d, v := begun(t)
	var l []api.Needle
	for i := range 40 {
		n := blob(uint64(i*37%41), i*3)
		if i > 0 {
			n.Data[i-1] ^= byte(i)
		}
		l = append(l, n)
		must(t, v.Put(n))
	}
	for _, n := range l[10:20] {
		must(t, v.Del(n.Key, n.Cookie))
	}
	is(t, "P11.2: Run", compact.Run(d, v), 0)
	for i, n := range l {
		got, e := v.Get(n.Key, n.Cookie)
		if i >= 10 && i < 20 {
			is(t, "P11.3: Get of what is gone", e, api.ErrGone)
		} else if e != nil || !needle.Same(got, n) {
			t.Errorf("P11.3: Get(%d): %v, %v; want %v", n.Key, got, e, n)
		}
		_, e = v.Get(n.Key, n.Cookie+1)
		if i < 10 || i >= 20 {
			is(t, "P11.3: Get with another cookie", e, api.ErrCookie)
		}
		if e := v.Put(n); e == nil {
			t.Errorf("P11.3: Put of %d again", n.Key)
		}
	}
}
