package compact_test

import (
	"errors"
	"fmt"
	"slices"
	"testing"

	"corncrib/api"
	"corncrib/compact"
	"corncrib/disk"
	"corncrib/vol"
)

// shown tells what is there behind so many steps that aren't the last one.
func shown(before map[string]string, v *vol.Vol, steps int) map[string]string {
	if steps == 0 {
		return before
	}
	data, next, _ := names(v)
	s := super(v.Info().Number, v.Info().Gen+1)
	for _, p := range places(v)[:steps-1] {
		s += part(before[data], p)
	}
	return with(before, next, s)
}

func TestStep(t *testing.T) {
	placed(t, func(why, kind, old string) {
		d, v := place(t, kind, old)
		before, was, want := files(d), seen(v), behind(d, v)
		_, l := fresh(d, v)
		n := len(was.l)
		c := ahead(t, d, v, 0)
		left(t, "P11.1: ahead of the first step "+why, c, 0)
		for i := range n + 1 {
			why := fmt.Sprintf("P11.1: step %d %s", i+1, why)
			told(t, why, c, false, 0)
			left(t, why, c, n-i)
			has(t, why, d, shown(before, v, i+1))
			if got := seen(v); !got.same(was) {
				t.Errorf("%s: the volume is %v; was %v", why, got, was)
			}
		}
		told(t, "P11.1: the last step "+why, c, true, 0)
		left(t, "P11.1: the last step "+why, c, 0)
		has(t, "P11.1: the last step "+why, d, want)
		i := was.i
		i.Gen, i.Size = i.Gen+1, compact.Least(v)
		if got := seen(v); !got.same(image{i, l}) {
			t.Errorf("P11.1: the last step %s: the volume is %v; want %v, %v", why, got, i, l)
		}
		finished(t, "P11.1: a compactor that is done "+why, d, c)
	})
}

// By their places, not by their keys.
func TestOrderOfCopies(t *testing.T) {
	d, v := begun(t, blob(9, 3), blob(2, 20), blob(5, 0), dead(9), blob(1, 1), dead(0))
	l := []api.Needle{blob(2, 20), blob(5, 0), dead(9), blob(1, 1), dead(0)}
	c := ahead(t, d, v, 1)
	for i := range l {
		told(t, "P11.1: Step", c, false, 0)
		if got := files(d)["v3.2"]; got != super(3, 2)+text(l[:i+1]...) {
			t.Errorf("P11.1: %d copies: %q", i+1, got)
		}
	}
	told(t, "P11.1: the last step", c, true, 0)
	want := []api.Pos{
		{Key: 0, Off: 16 + 56 + 32 + 32 + 40, Cookie: 100, Gone: true},
		{Key: 1, Off: 16 + 56 + 32 + 32, Len: 1, Cookie: 101},
		{Key: 2, Off: 16, Len: 20, Cookie: 102},
		{Key: 5, Off: 16 + 56, Cookie: 105},
		{Key: 9, Off: 16 + 56 + 32, Cookie: 109, Gone: true},
	}
	if got := v.Keys(0, 9); !slices.Equal(got, want) {
		t.Errorf("P11.1: positions %v; want %v", got, want)
	}
	if i := v.Info(); i != (vol.Info{Number: 3, Gen: 2, Epoch: 5, Size: 208, Live: 3, Gone: 2}) {
		t.Errorf("P11.1: %+v", i)
	}
}

// deed is one of the disk's, and which step it is of.
type deed struct {
	step int
	do   func(d *disk.Disk) error
}

// deeds tells those of all steps.
func deeds(d *disk.Disk, v *vol.Vol, old string) []deed {
	data, next, point := names(v)
	i, before := v.Info(), files(d)
	m := fmt.Sprint("m", i.Number)
	create := func(name string) func(*disk.Disk) error {
		return func(d *disk.Disk) error { return d.Create(name) }
	}
	add := func(name, s string) func(*disk.Disk) error {
		return func(d *disk.Disk) error { return d.Append(name, []byte(s)) }
	}
	sync := func(name string) func(*disk.Disk) error {
		return func(d *disk.Disk) error { return d.Sync(name) }
	}
	remove := func(name string) func(*disk.Disk) error {
		return func(d *disk.Disk) error { return d.Remove(name) }
	}
	var l []deed
	if old != "-" {
		l = append(l, deed{1, remove(next)})
	}
	l = append(l, deed{1, create(next)}, deed{1, add(next, super(i.Number, i.Gen+1))})
	for j, p := range places(v) {
		l = append(l, deed{2 + j, add(next, part(before[data], p))})
	}
	last := 2 + i.Live + i.Gone
	l = append(l, deed{last, sync(next)})
	if _, there := before[m+".t"]; there {
		l = append(l, deed{last, remove(m + ".t")})
	}
	l = append(l, deed{last, create(m + ".t")}, deed{last, add(m+".t", manifest(v, i.Gen+1))}, deed{last, sync(m + ".t")})
	l = append(l, deed{last, func(d *disk.Disk) error { return d.Rename(m+".t", m) }}, deed{last, (*disk.Disk).SyncNames})
	l = append(l, deed{last, remove(data)})
	if _, there := before[point]; there {
		l = append(l, deed{last, remove(point)})
	}
	return append(l, deed{last, (*disk.Disk).SyncNames})
}

// Each step does its deeds, in their order, and no other: behind so many the disk
// is down, the step tells it, and the compactor is over.
func TestStepOfADiskThatEnds(t *testing.T) {
	placed(t, func(why, kind, old string) {
		d, v := place(t, kind, old)
		all := deeds(d, v, old)
		for n := range len(all) + 1 {
			why := fmt.Sprintf("P11.1: %s, and %d deeds", why, n)
			d, v := place(t, kind, old)
			was, size := seen(v), len(places(v))
			must(t, d.Arm(n))
			c := ahead(t, d, v, 0)
			for i := range size + 2 {
				if n < len(all) && all[n].step == i+1 {
					told(t, why, c, false, api.ErrDown)
					break
				}
				told(t, why, c, i == size+1, 0)
			}
			for range 2 {
				left(t, why, c, 0)
				told(t, why+", and one more step", c, false, api.ErrDone)
			}
			if !d.Down() {
				t.Errorf("%s: it isn't down", why)
			}
			must(t, d.Crash(every(99, disk.Pick{Keep: 1 << 20})))
			hand, _ := place(t, kind, old)
			for _, x := range all[:n] {
				must(t, x.do(hand))
			}
			has(t, why, d, files(hand))
			finished(t, why+", and a crash", d, c)
			opens(t, why, d, was)
		}
	})
}

// picks are of all kinds.
func picks(do func(why string, p disk.Picks)) {
	for names := range 7 {
		for _, p := range []disk.Pick{{}, {Keep: 1}, {Keep: 15, Turn: 1}, {Keep: 16}, {Keep: 24, Turn: 8}, {Keep: 55}, {Keep: 56, Turn: 255}, {Keep: 1 << 20}} {
			do(fmt.Sprintf("%d of names picked, %v", names, p), every(names, p))
		}
	}
}

// What lasts behind each deed, whatever is picked; and the volume opens as
// without the compactor.
func TestWhatLasts(t *testing.T) {
	for kind := range kinds {
		for _, old := range []string{"-", "junk"} {
			d, v := place(t, kind, old)
			all := deeds(d, v, old)
			for n := range len(all) + 1 {
				picks(func(which string, p disk.Picks) {
					why := fmt.Sprintf("P11.3: of a volume %s, with %q there, %d deeds, %s", kind, old, n, which)
					d, v := place(t, kind, old)
					was := seen(v)
					must(t, d.Arm(n))
					code := api.ErrDown
					if n == len(all) {
						code = 0
					}
					is(t, why, compact.Run(d, v), code)
					must(t, d.Crash(p))
					hand, _ := place(t, kind, old)
					for _, x := range all[:n] {
						must(t, x.do(hand))
					}
					must(t, hand.Crash(p))
					has(t, why, d, files(hand))
					w := opens(t, why, d, was)
					is(t, why+", and Run", compact.Run(d, w), 0)
					keeps(t, why+", and Run", w, was)
				})
			}
		}
	}
}

// A disk may have room for some of the copies only: the file is removed then, and
// all is as it was.
func TestFullDisk(t *testing.T) {
	for kind := range kinds {
		d, v := kinds[kind](t)
		next := super(v.Info().Number, v.Info().Gen+1)
		most := plenty - d.Used()
		for _, old := range []string{"-", "", next} {
			least := len(next) + 24
			if old != "-" {
				least -= len(old)
			}
			// From no room at all up to all that is needed, and one byte more; rooms far
			// from where a deed has just room, or not, are all alike.
			for room := range least + compact.Least(v) - len(next) + 2 {
				if room < 200 || room > compact.Least(v)-40 || room%64 == 0 {
					fullDisk(t, kind, old, min(room, most))
				}
			}
		}
	}
}

// fullDisk runs a compaction on a disk with so much room.
func fullDisk(t *testing.T, kind, old string, room int) {
	t.Helper()
	why := fmt.Sprintf("P11.1: of a volume %s, with %.20q there, and room for %d bytes", kind, old, room)
	d, v := place(t, kind, old)
	hand, _ := place(t, kind, old)
	for _, d := range []*disk.Disk{d, hand} {
		laid(t, d, "x", string(make([]byte, plenty-d.Used()-room)))
	}
	was, all := seen(v), deeds(d, v, old)
	_, next, _ := names(v)
	step := len(was.l) + 3 // none
	for _, x := range all {
		if e := x.do(hand); e != nil {
			is(t, why+", by hand", e, api.ErrFull)
			must(t, hand.Remove(next))
			step = x.step
			break
		}
	}
	c := ahead(t, d, v, min(step-1, len(was.l)+1))
	if step > len(was.l)+2 {
		told(t, why, c, true, 0)
		has(t, why, d, files(hand))
		return
	}
	told(t, why, c, false, api.ErrFull)
	has(t, why, d, files(hand))
	if got := seen(v); !got.same(was) {
		t.Errorf("%s: the volume is %v; was %v", why, got, was)
	}
	finished(t, why, d, c)
	// Run has more room, if there was an elder file.
	if e := compact.Run(d, v); old == "-" {
		is(t, "P11.2: Run "+why, e, api.ErrFull)
		has(t, "P11.2: Run "+why, d, files(hand))
	}
	must(t, d.Remove("x"), d.SyncNames(), d.Crash(disk.Picks{}))
	v = opens(t, why, d, was)
	is(t, "P11.2: Run behind it", compact.Run(d, v), 0)
	opens(t, "P11.2: Run behind it", d, was)
}

// The last step that begins the file anew may find no room for its superblock.
func TestFullDiskInTheLastStep(t *testing.T) {
	d, v := begun(t)
	was := seen(v)
	c := ahead(t, d, v, 1)
	must(t, d.Cut("v3.2", 0))
	laid(t, d, "x", string(make([]byte, plenty-d.Used()-15)))
	before := without(files(d), "v3.2")
	told(t, "P11.1: the last step without room", c, false, api.ErrFull)
	has(t, "P11.1: the last step without room", d, before)
	finished(t, "P11.1: the last step without room", d, c)
	must(t, d.Crash(disk.Picks{}))
	opens(t, "P11.1: the last step without room", d, was)
}

// A disk may have no name left, or one: the file needs one, and then the manifest.
func TestADiskOfAllNames(t *testing.T) {
	for free := range 3 {
		for _, old := range []string{"-", "junk"} {
			why := fmt.Sprintf("P11.1: with %d names, and %q there", free, old)
			d, v := place(t, "of some", old)
			was := seen(v)
			for i := 0; len(d.Names()) < api.MaxFiles-free; i++ {
				must(t, d.Create(fmt.Sprint("x", i)))
			}
			must(t, d.SyncNames())
			before := without(files(d), "v3.2")
			// An elder file's name is as good as a free one.
			names := free
			if old != "-" {
				names++
			}
			c := ahead(t, d, v, 0)
			if names == 0 {
				told(t, why, c, false, api.ErrFull)
			} else {
				told(t, why, c, false, 0)
			}
			if names < 2 {
				for range c.Left() {
					told(t, why, c, false, 0)
				}
				if names == 1 {
					told(t, why+", the last step", c, false, api.ErrFull)
				}
				has(t, why, d, before)
				finished(t, why, d, c)
				is(t, "P11.2: Run "+why, compact.Run(d, v), api.ErrFull)
				has(t, "P11.2: Run "+why, d, before)
				must(t, d.Remove("x0"), d.Remove("x1"))
				c = ahead(t, d, v, 1)
			}
			ends(t, why, c)
			opens(t, why, d, was)
		}
	}
}

// Each of the disk's errors is told as it is: of a file that isn't there any more,
// or has got too long.
func TestStepOfATouchedDisk(t *testing.T) {
	for what, touch := range map[string]struct {
		do   func(d *disk.Disk) error
		code api.Code // of the step behind it
	}{
		"removed": {func(d *disk.Disk) error { return d.Remove("v3.2") }, api.ErrNone},
		"renamed": {func(d *disk.Disk) error { return d.Rename("v3.2", "x") }, api.ErrNone},
		"a crash": {func(d *disk.Disk) error { return d.Crash(disk.Picks{}) }, api.ErrNone},
		"opened": {func(d *disk.Disk) error {
			_, e := vol.Open(d, 3, plenty)
			return e
		}, api.ErrNone},
		"made too long": {func(d *disk.Disk) error {
			n, e := d.Size("v3.2")
			if e != nil {
				return e
			}
			return d.Append("v3.2", make([]byte, api.MaxFile-n))
		}, api.ErrLong},
	} {
		for steps := range 4 {
			why := fmt.Sprintf("P11.1: %d steps, and the file is %s", steps, what)
			d := sure(disk.New(1 << 26))
			v := made(t, d, blob(7, 5), blob(8, 5))
			was := seen(v)
			c := ahead(t, d, v, steps)
			if e := touch.do(d); steps == 0 && e != nil {
				is(t, why, e, api.ErrNone)
			} else {
				must(t, e)
			}
			there := without(files(d), "v3.2")
			switch {
			case steps == 0:
				told(t, why, c, false, 0)
				ends(t, why, c)
			case steps == 3 && touch.code == api.ErrLong:
				// There is nothing to be appended any more: it is written anew.
				ends(t, why, c)
			default:
				told(t, why, c, false, touch.code)
				has(t, why, d, there)
				keeps(t, why, v, was)
			}
			finished(t, why, d, c)
			must(t, d.Crash(disk.Picks{}))
			opens(t, why, d, was)
		}
	}
}

// The data file may be gone: each copy needs it, and the last step, too.
func TestWithoutTheDataFile(t *testing.T) {
	for steps := 1; steps < 4; steps++ {
		why := fmt.Sprintf("P11.1: %d steps, and there is no data file", steps)
		d, v := begun(t, blob(7, 5), blob(8, 5))
		c := ahead(t, d, v, steps)
		must(t, d.Rename("v3.1", "x"))
		there := files(d)
		done, e := c.Step()
		is(t, why, e, api.ErrNone)
		var at *api.At
		if done || errors.As(e, &at) {
			t.Errorf("%s: %v, %v", why, done, e)
		}
		if steps < 3 {
			has(t, why, d, without(there, "v3.2"))
			finished(t, why, d, c)
			continue
		}
		// All was copied: the volume is of it, though the elder file isn't removed.
		has(t, why, d, with(there, "m3", manifest(v, 2)))
		if i := v.Info(); i.Gen != 2 || i.Size != 96 {
			t.Errorf("%s: %+v", why, i)
		}
		finished(t, why, d, c)
		opens(t, why, d, seen(v))
	}
}
