package ckpt_test

import (
	"fmt"
	"maps"
	"slices"
	"strings"
	"testing"

	"corncrib/api"
	"corncrib/ckpt"
	"corncrib/disk"
	"corncrib/vol"
)

// olds are what may stand under a checkpoint's names already: "-" is no file.
var olds = []string{"-", "", "junk", "PKHC", strings.Repeat("\x00", 200)}

// place begins with a volume of a kind, and lays what is there already.
func place(t *testing.T, kind, draft, file string) (*disk.Disk, *vol.Vol) {
	t.Helper()
	d, v := kinds[kind](t)
	d0, p0, _ := names(v)
	for name, text := range map[string]string{d0: draft, p0: file} {
		if text != "-" {
			laid(t, d, name, text)
		}
	}
	return d, v
}

// placed goes over all kinds of volumes, and all that may be there already.
func placed(do func(why, kind, draft, file string)) {
	for kind := range kinds {
		for _, draft := range olds {
			for _, file := range olds {
				do(fmt.Sprintf("of a volume %s, with %.9q and %.9q there", kind, draft, file), kind, draft, file)
			}
		}
	}
}

// shown tells what is there behind so many steps.
func shown(before map[string]string, v *vol.Vol, steps int) map[string]string {
	draft, file, _ := names(v)
	switch {
	case steps == 0:
		return before
	case steps == 1:
		return with(before, draft, "")
	case steps < 4:
		return with(before, draft, point(v))
	}
	return with(without(before, draft), file, point(v))
}

func TestStep(t *testing.T) {
	placed(func(why, kind, draft, file string) {
		d, v := place(t, kind, draft, file)
		before, was := files(d), seen(v)
		w := sure(ckpt.New(d, v))
		for i := range 5 {
			if n := w.Upto(); i == 0 && n != 0 || i > 0 && n != was.i.Size {
				t.Errorf("P10.1: Upto behind %d steps %s: %d", i, why, n)
			}
			told(t, fmt.Sprintf("P10.1: step %d %s", i+1, why), w, i == 4, 0)
			has(t, fmt.Sprintf("P10.1: step %d %s", i+1, why), d, shown(before, v, i+1))
			if got := seen(v); !got.same(was) {
				t.Errorf("P10.1: step %d %s: the volume is %v; was %v", i+1, why, got, was)
			}
		}
		finished(t, "P10.1: a writer that is done "+why, d, w)
		if n := w.Upto(); n != was.i.Size {
			t.Errorf("P10.1: Upto behind all steps %s: %d", why, n)
		}
	})
}

// deed is one of the disk's: which step it is of, and whether it is of names.
type deed struct {
	step  int
	names bool
}

// deeds tells those of all steps; an elder draft is removed first.
func deeds(old bool) []deed {
	l := []deed{{1, true}, {2, false}, {3, false}, {4, true}, {5, false}}
	if old {
		l = slices.Insert(l, 0, deed{1, true})
	}
	return l
}

// left tells what is there behind so many deeds of an armed disk.
func left(before map[string]string, v *vol.Vol, old bool, n int) map[string]string {
	draft, _, _ := names(v)
	if old && n == 0 {
		return before
	}
	if old && n == 1 {
		return without(before, draft)
	}
	if old {
		n--
	}
	return shown(before, v, n)
}

// lasts tells what is there behind a crash: of n deeds that were done so many of
// those of names that don't last yet are picked, and of bytes that don't last so
// many.
func lasts(before map[string]string, v *vol.Vol, old bool, n, picked int, p disk.Pick) map[string]string {
	all := deeds(old)
	if n == len(all) {
		return left(before, v, old, n)
	}
	upto := 0 // the deeds that last
	for i, x := range all[:n] {
		if x.names && picked > 0 {
			picked--
			upto = i + 1
		}
	}
	m := maps.Clone(left(before, v, old, upto))
	draft, _, _ := names(v)
	if _, there := m[draft]; !there || upto == 0 {
		return m
	}
	// The draft is there as the writer made it: empty, or with what was appended.
	switch all[n-1].step {
	case 1:
		m[draft] = ""
	case 2:
		m[draft] = torn(point(v), p)
	default:
		m[draft] = point(v)
	}
	return m
}

// torn tells what a crash leaves of a text that doesn't last.
func torn(s string, p disk.Pick) string {
	b := []byte(s[:min(max(p.Keep, 0), len(s))])
	if len(b) > 0 {
		b[len(b)-1] ^= p.Turn
	}
	return string(b)
}

// every tells a pick for each file.
func every(names int, p disk.Pick) disk.Picks {
	return disk.Picks{Names: names, Files: slices.Repeat([]disk.Pick{p}, 100)}
}

// Each step does its deeds, and no other: behind so many the disk is down, the
// step tells it, and the writer is over.
func TestStepOfADiskThatEnds(t *testing.T) {
	placed(func(why, kind, draft, file string) {
		old := draft != "-"
		for n := range len(deeds(old)) + 1 {
			why := fmt.Sprintf("P10.1: %s, and %d deeds", why, n)
			d, v := place(t, kind, draft, file)
			before, was := files(d), seen(v)
			must(t, d.Arm(n))
			w := sure(ckpt.New(d, v))
			for i := range 5 {
				if n < len(deeds(old)) && deeds(old)[n].step == i+1 {
					told(t, why, w, false, api.ErrDown)
					break
				}
				told(t, why, w, i == 4, 0)
			}
			for range 2 {
				told(t, why+", and one more step", w, false, api.ErrDone)
			}
			// Also behind the first step that told an error the volume had its size.
			if got := seen(v); !got.same(was) || w.Upto() != was.i.Size || !d.Down() {
				t.Errorf("%s: the volume is %v; was %v; Upto %d, down %v", why, got, was, w.Upto(), d.Down())
			}
			must(t, d.Crash(every(9, disk.Pick{Keep: 1 << 20})))
			has(t, why, d, left(before, v, old, n))
			finished(t, why+", and a crash", d, w)
			opens(t, why, d, was)
		}
	})
}

// What lasts behind each deed, whatever is picked; and the volume opens as
// without the checkpoint.
func TestWhatLasts(t *testing.T) {
	for kind := range kinds {
		for _, draft := range []string{"-", "junk"} {
			for _, file := range []string{"-", "more junk"} {
				old := draft != "-"
				for n := range len(deeds(old)) + 1 {
					for picked := range 5 {
						for _, p := range []disk.Pick{{}, {Keep: 1}, {Keep: 23, Turn: 1}, {Keep: 24}, {Keep: 48}, {Keep: 1 << 20}, {Keep: 1 << 20, Turn: 128}} {
							d, v := place(t, kind, draft, file)
							before, was := files(d), seen(v)
							must(t, d.Arm(n))
							_ = ckpt.Write(d, v)
							must(t, d.Crash(every(picked, p)))
							why := fmt.Sprintf("P10.3: of a volume %s, with %q and %q there, %d deeds, %d of names picked, %v", kind, draft, file, n, picked, p)
							want := lasts(before, v, old, n, picked, p)
							has(t, why, d, want)
							opens(t, why, d, was)
							d0, _, _ := names(v)
							has(t, why+", and Open", d, without(want, d0))
						}
					}
				}
			}
		}
	}
}

// Write tells the first error, and does no more.
func TestWriteOfADiskThatEnds(t *testing.T) {
	placed(func(why, kind, draft, file string) {
		old := draft != "-"
		for n := range len(deeds(old)) + 2 {
			why := fmt.Sprintf("P10.2: Write %s, and %d deeds", why, n)
			d, v := place(t, kind, draft, file)
			before, was := files(d), seen(v)
			must(t, d.Arm(n))
			code := api.ErrDown
			if n >= len(deeds(old)) {
				code = 0
			}
			is(t, why, ckpt.Write(d, v), code)
			if got, down := seen(v), d.Down(); !got.same(was) || down != (n <= len(deeds(old))) {
				t.Errorf("%s: the volume is %v; was %v; down %v", why, got, was, down)
			}
			must(t, d.Crash(every(9, disk.Pick{Keep: 1 << 20})))
			has(t, why, d, left(before, v, old, min(n, len(deeds(old)))))
			opens(t, why, d, was)
			// And the next one is whole, whatever there is.
			is(t, why+", and once more", ckpt.Write(d, v), 0)
			has(t, why+", and once more", d, shown(before, v, 5))
		}
	})
}

// fill leaves room for so many bytes, by a file beside the volume's.
func fill(t *testing.T, d *disk.Disk, room int) {
	t.Helper()
	laid(t, d, "stuff", string(make([]byte, plenty-room-d.Used())))
}

// A disk may have room for some of the bytes only: none of them is there then.
func TestFullDisk(t *testing.T) {
	for kind := range kinds {
		_, v := kinds[kind](t)
		size := len(point(v))
		for _, room := range []int{0, 1, 23, size - 1, size, size + 1} {
			for _, draft := range []string{"-", "", "junk"} {
				why := fmt.Sprintf("P10.1: of a volume %s, with room for %d bytes, and %q there", kind, room, draft)
				d, v := place(t, kind, draft, "-")
				before, was := files(d), seen(v)
				w := ahead(t, d, v, 1)
				fill(t, d, room)
				full := files(d)
				if room >= size {
					for i := range 4 {
						told(t, why, w, i == 3, 0)
					}
					has(t, why, d, shown(full, v, 5))
					continue
				}
				told(t, why, w, false, api.ErrFull)
				has(t, why, d, full)
				if w.Upto() != was.i.Size {
					t.Errorf("%s: Upto %d", why, w.Upto())
				}
				finished(t, why, d, w)
				is(t, "P10.2: Write "+why, ckpt.Write(d, v), api.ErrFull)
				has(t, "P10.2: Write "+why, d, full)
				must(t, d.Remove("stuff"), d.SyncNames(), d.Crash(disk.Picks{}))
				opens(t, why, d, was)
				d0, _, _ := names(v)
				has(t, why+", and Open", d, without(before, d0))
				is(t, "P10.2: Write behind it", ckpt.Write(d, v), 0)
			}
		}
	}
}

// A disk may have no name left; that of an elder draft is one.
func TestADiskOfAllNames(t *testing.T) {
	for _, draft := range []string{"-", "", "junk"} {
		d, v := place(t, "of some", draft, "-")
		before, was := files(d), seen(v)
		for i := 0; len(d.Names()) < api.MaxFiles; i++ {
			must(t, d.Create(fmt.Sprint("x", i)))
		}
		all := files(d)
		if draft != "-" {
			ahead(t, d, v, 5)
			has(t, "P10.1: a disk of all names", d, shown(all, v, 5))
			continue
		}
		w := ahead(t, d, v, 0)
		told(t, "P10.1: a disk of all names", w, false, api.ErrFull)
		if w.Upto() != was.i.Size {
			t.Errorf("P10.1: a disk of all names: Upto %d", w.Upto())
		}
		finished(t, "P10.1: a disk of all names", d, w)
		is(t, "P10.2: Write on a disk of all names", ckpt.Write(d, v), api.ErrFull)
		has(t, "P10.1: a disk of all names", d, all)
		must(t, d.Remove("x0"))
		ahead(t, d, v, 5)
		must(t, d.Crash(disk.Picks{}))
		opens(t, "P10.3: a disk of all names", d, was)
		if got := files(d); got["c3.1"] != point(v) || got["m3"] != before["m3"] {
			t.Errorf("P10.3: a disk of all names: %q", got)
		}
	}
}

// Each of the disk's errors is told as it is: of a draft that isn't there any
// more, or has got too long.
func TestStepOfATouchedDisk(t *testing.T) {
	for steps := range 5 {
		for why, touch := range map[string]struct {
			do   func(d *disk.Disk) error
			code []api.Code // behind so many steps
		}{
			"removed":      {func(d *disk.Disk) error { return d.Remove("c3.0") }, []api.Code{0, api.ErrNone, api.ErrNone, api.ErrNone, 0}},
			"renamed":      {func(d *disk.Disk) error { return d.Rename("c3.0", "x") }, []api.Code{0, api.ErrNone, api.ErrNone, api.ErrNone, 0}},
			"made a point": {func(d *disk.Disk) error { return d.Rename("c3.0", "c3.1") }, []api.Code{0, api.ErrNone, api.ErrNone, api.ErrNone, 0}},
			"a crash":      {func(d *disk.Disk) error { return d.Crash(disk.Picks{}) }, []api.Code{0, api.ErrNone, api.ErrNone, api.ErrNone, 0}},
			"too long":     {func(d *disk.Disk) error { return d.Append("c3.0", make([]byte, api.MaxFile-64)) }, []api.Code{0, api.ErrLong, 0, 0, 0}},
			"spoilt":       {func(d *disk.Disk) error { return d.Spoil("c3.0", 30, 4) }, []api.Code{0, 0, 0, 0, 0}},
		} {
			why := fmt.Sprintf("P10.1: %d steps, and the draft is %s", steps, why)
			d := sure(disk.New(1 << 26))
			v := sure(vol.Make(d, 3, plenty, 5))
			must(t, v.Put(blob(7, 5)), v.Put(blob(8, 5)))
			was := seen(v)
			w := ahead(t, d, v, steps)
			// A draft that isn't there, or has no bytes yet, can't be touched.
			_ = touch.do(d)
			there := files(d)
			code := touch.code[steps]
			told(t, why, w, steps == 4 && code == 0, code)
			if code != 0 {
				has(t, why, d, there)
				finished(t, why, d, w)
			}
			for range 5 - steps {
				_, _ = w.Step()
			}
			finished(t, why+", and all steps", d, w)
			must(t, d.Crash(disk.Picks{}))
			opens(t, why, d, was)
		}
	}
}

// Positions of a Commit may be such as no checkpoint has: then there is none.
func TestPositionsThatCannotBe(t *testing.T) {
	for _, p := range []api.Pos{{Key: 7, Off: -1}, {Key: 7, Off: 1<<24 + 1}, {Key: 7, Len: -1}, {Key: 7, Len: 4097}, {Key: 7, Len: 1, Gone: true}} {
		d, v := begun(t, blob(7, 5))
		laid(t, d, "v3.2", files(d)["v3.1"])
		must(t, v.Commit([]api.Pos{p}, v.Info().Size))
		before := files(d)
		w := ahead(t, d, v, 1)
		told(t, fmt.Sprintf("P10.1: of %+v", p), w, false, api.ErrArg)
		finished(t, fmt.Sprintf("P10.1: of %+v", p), d, w)
		has(t, "P10.1: of positions that can't be", d, with(before, "c3.0", ""))
		is(t, "P10.2: of positions that can't be", ckpt.Write(d, v), api.ErrArg)
	}
}
