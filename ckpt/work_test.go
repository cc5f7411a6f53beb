package ckpt_test

import (
	"errors"
	"fmt"
	"testing"

	"corncrib/api"
	"corncrib/ckpt"
	"corncrib/disk"
	"corncrib/vol"
)

// works are what a volume may do between two steps, and stay of its generation.
var works = map[string]func(v *vol.Vol) error{
	"Put":          func(v *vol.Vol) error { return v.Put(blob(20, 30)) },
	"Del":          func(v *vol.Vol) error { return v.Del(7, 107) },
	"Set":          func(v *vol.Vol) error { return v.Set(v.Info().Epoch+1, false) },
	"Set, sealed":  func(v *vol.Vol) error { return v.Set(v.Info().Epoch, true) },
	"Lay":          func(v *vol.Vol) error { return v.Lay(blob(21, 0)) },
	"Lay gone":     func(v *vol.Vol) error { return v.Lay(dead(8)) },
	"Lay of none":  func(v *vol.Vol) error { return v.Lay(dead(22)) },
	"Put and Del":  func(v *vol.Vol) error { return errors.Join(v.Put(blob(23, 9)), v.Del(23, 123)) },
	"Put and more": func(v *vol.Vol) error { return errors.Join(v.Put(blob(1, 1)), v.Put(blob(1<<63, 4096)), v.Del(8, 108)) },
	"a Commit that isn't one": func(v *vol.Vol) error {
		if !errors.Is(v.Commit(nil, 16), api.ErrNone) {
			return api.ErrBusy
		}
		return nil
	},
}

// later opens a volume whose checkpoint is of a time ahead: all is there, also
// what was written behind it, and what stands ahead of it isn't read.
func later(t *testing.T, why string, d *disk.Disk, v *vol.Vol, upto int) {
	t.Helper()
	want := seen(v)
	must(t, d.Crash(disk.Picks{}))
	opens(t, why, d, want)
	// Without the checkpoint the scan would end at once.
	data := fmt.Sprint("v3.", want.i.Gen)
	if upto > 16 {
		must(t, d.Spoil(data, 16, 255))
		w, e := vol.Open(d, 3, plenty)
		must(t, e)
		if got := seen(w); !got.same(want) {
			t.Errorf("%s: Open with spoilt bytes ahead of %d: %+v; want %+v", why, upto, got, want)
		}
		must(t, d.Spoil(data, 16, 255))
	}
	must(t, d.Remove(fmt.Sprint("c3.", want.i.Gen)))
	opens(t, why+", without the checkpoint", d, want)
}

func TestWorkBetweenSteps(t *testing.T) {
	for what, work := range works {
		for gap := range 6 {
			why := fmt.Sprintf("P10.1: %s behind %d steps", what, gap)
			d, v := begun(t, blob(7, 5), blob(8, 9))
			w := ahead(t, d, v, 0)
			var text string
			upto := 0
			for i := range 6 {
				if i == gap {
					must(t, work(v))
				}
				if i == 0 {
					text, upto = point(v), v.Info().Size
				}
				if n := w.Upto(); i == 0 && n != 0 || i > 0 && n != upto {
					t.Errorf("%s: Upto behind %d steps: %d; want %d", why, i, n, upto)
				}
				if i < 5 {
					told(t, why, w, i == 4, 0)
				}
			}
			want := files(d)
			if want["c3.1"] != text {
				t.Errorf("%s: %q; want %q", why, want["c3.1"], text)
			}
			finished(t, why, d, w)
			later(t, why, d, v, upto)
		}
	}
}

func TestWorkBetweenAllSteps(t *testing.T) {
	d, v := begun(t, blob(7, 5), blob(8, 9))
	w := ahead(t, d, v, 0)
	text, upto := "", 0
	for i := range 6 {
		must(t, v.Put(blob(uint64(30+i), i)), v.Lay(dead(uint64(60+i))), v.Set(6+i, i%2 == 1), v.Lay(blob(uint64(90+i), 9)), v.Set(6+i, false))
		if i > 0 {
			must(t, v.Del(uint64(29+i), uint32(129+i)))
		} else {
			text, upto = point(v), v.Info().Size
		}
		if i < 5 {
			told(t, "P10.1: work between all steps", w, i == 4, 0)
			if w.Upto() != upto {
				t.Errorf("P10.1: Upto behind work: %d; want %d", w.Upto(), upto)
			}
		}
	}
	if got := files(d)["c3.1"]; got != text {
		t.Errorf("P10.1: work between all steps: %q; want %q", got, text)
	}
	later(t, "P10.1: work between all steps", d, v, upto)
}

// A volume that is opened anew is another object: the writer's one stays as it
// is, and so does the checkpoint; opening removes a draft.
func TestOpenBetweenSteps(t *testing.T) {
	for gap := range 6 {
		why := fmt.Sprintf("P10.1: Open behind %d steps", gap)
		d, v := begun(t, blob(7, 5), blob(8, 9))
		want := seen(v)
		w := ahead(t, d, v, gap)
		opens(t, why, d, want)
		switch gap {
		case 0:
			for i := range 5 {
				told(t, why, w, i == 4, 0)
			}
		case 1, 2, 3:
			told(t, why, w, false, api.ErrNone)
		case 4:
			told(t, why, w, true, 0)
		}
		finished(t, why, d, w)
		must(t, d.Crash(disk.Picks{}))
		opens(t, why, d, want)
	}
}

// commits are what a Commit may come to behind which the volume is of another
// generation.
var commits = map[string]func(d *disk.Disk, v *vol.Vol) error{
	"Commit":      compacted,
	"two Commits": func(d *disk.Disk, v *vol.Vol) error { return errors.Join(compacted(d, v), compacted(d, v)) },
	"Commit and Put": func(d *disk.Disk, v *vol.Vol) error {
		return errors.Join(compacted(d, v), v.Put(blob(20, 1)))
	},
	"a Commit whose end is an error": func(d *disk.Disk, v *vol.Vol) error {
		if e := errors.Join(d.Rename("v3.1", "x"), d.SyncNames()); e != nil {
			return e
		}
		laidOn(d, "v3.2", files(d)["x"])
		if e := v.Commit(v.Keys(0, 99), v.Info().Size); !errors.Is(e, api.ErrNone) {
			return api.ErrBusy
		}
		// It is of the generation all the same; its superblock is to be right, too.
		return errors.Join(d.Remove("v3.2"), laidOn(d, "v3.2", super(3, 2)+files(d)["x"][16:]), d.Remove("x"), d.SyncNames())
	},
}

func TestCommitBetweenSteps(t *testing.T) {
	for what, commit := range commits {
		for gap := range 6 {
			for _, down := range []bool{false, true} {
				why := fmt.Sprintf("P10.1: %s behind %d steps, down %v", what, gap, down)
				d, v := begun(t, blob(7, 5), blob(8, 9), dead(7))
				upto := v.Info().Size
				w := ahead(t, d, v, gap)
				must(t, commit(d, v))
				before, want := files(d), seen(v)
				if _, there := before["c3.1"]; there != (gap > 3 && what == "a Commit whose end is an error") {
					t.Errorf("%s: the checkpoint is there: %v", why, there)
				}
				if down {
					must(t, d.Arm(0))
				}
				switch {
				case gap == 5:
					told(t, why, w, false, api.ErrDone)
				case gap > 0:
					// Whether the disk does it or not.
					told(t, why, w, false, api.ErrStale)
					if !down {
						before = without(before, "c3.0")
					}
				case down:
					told(t, why, w, false, api.ErrDown)
					upto = v.Info().Size
				default:
					text := point(v)
					upto = v.Info().Size
					for i := range 5 {
						told(t, why, w, i == 4, 0)
					}
					before = with(before, fmt.Sprint("c3.", want.i.Gen), text)
				}
				for range 2 {
					told(t, why+", and one more step", w, false, api.ErrDone)
				}
				if w.Upto() != upto {
					t.Errorf("%s: Upto %d; want %d", why, w.Upto(), upto)
				}
				must(t, d.Crash(every(9, disk.Pick{Keep: 1 << 20})))
				has(t, why, d, before)
				finished(t, why, d, w)
				opens(t, why, d, want)
			}
		}
	}
}

// A stale step does one deed, if the draft is there, and none, if it isn't;
// whoever's the draft is, and whatever is in it.
func TestStaleStep(t *testing.T) {
	for gap := 1; gap < 5; gap++ {
		for _, draft := range []string{"-", "", "junk"} {
			why := fmt.Sprintf("P10.1: a stale step behind %d steps, with %q", gap, draft)
			d, v := begun(t, blob(7, 5))
			w := ahead(t, d, v, gap)
			must(t, compacted(d, v))
			if gap < 4 {
				must(t, d.Remove("c3.0"))
			}
			laid(t, d, "c3.1", "left")
			laid(t, d, "c3.2", "new")
			before, want := files(d), seen(v)
			if draft != "-" {
				laid(t, d, "c3.0", draft)
			}
			must(t, d.Arm(2))
			told(t, why, w, false, api.ErrStale)
			has(t, why, d, before)
			// A deed of it and one of this, or two of this, and it is down.
			if draft == "-" {
				must(t, d.SyncNames())
			}
			must(t, d.SyncNames())
			if !d.Down() {
				t.Errorf("%s: it did too few deeds", why)
			}
			must(t, d.Crash(disk.Picks{}))
			has(t, why+", and a crash", d, before)
			finished(t, why, d, w)
			opens(t, why, d, want)
		}
	}
	// A stale step syncs no names: a crash may bring the draft back.
	d, v := begun(t, blob(7, 5))
	w := ahead(t, d, v, 3)
	must(t, compacted(d, v))
	before, want := files(d), seen(v)
	told(t, "P10.1: a stale step", w, false, api.ErrStale)
	must(t, d.Crash(disk.Picks{}))
	has(t, "P10.1: a stale step, and a crash", d, before)
	opens(t, "P10.3: a stale step, and a crash", d, want)
}

// Of the errors that could be told the first one is told.
func TestOrderOfErrors(t *testing.T) {
	// Of a writer that is over, of a stale volume, on a disk that is down.
	d, v := begun(t, blob(7, 5))
	over, stale, done := ahead(t, d, v, 1), ahead(t, d, v, 1), ahead(t, d, v, 5)
	told(t, "P10.1: without its draft", over, false, api.ErrNone)
	must(t, compacted(d, v))
	first := ahead(t, d, v, 0)
	must(t, d.Arm(0))
	told(t, "P10.1: over, stale and down", over, false, api.ErrDone)
	told(t, "P10.1: done, stale and down", done, false, api.ErrDone)
	told(t, "P10.1: stale and down", stale, false, api.ErrStale)
	told(t, "P10.1: over, stale and down", stale, false, api.ErrDone)
	told(t, "P10.1: ahead of the first step, and down", first, false, api.ErrDown)
	// Stale, and without a draft, or of a full disk, or of what has no checkpoint.
	d, v = begun(t, blob(7, 5))
	stale = ahead(t, d, v, 1)
	must(t, compacted(d, v), d.Remove("c3.0"))
	told(t, "P10.1: stale, and without a draft", stale, false, api.ErrStale)
	d, v = begun(t, blob(7, 5))
	stale = ahead(t, d, v, 1)
	must(t, compacted(d, v))
	fill(t, d, 0)
	told(t, "P10.1: stale, and the disk is full", stale, false, api.ErrStale)
	d, v = begun(t, blob(7, 5))
	laid(t, d, "v3.2", super(3, 2))
	must(t, v.Commit([]api.Pos{{Off: -1}}, 16))
	wrong := ahead(t, d, v, 1)
	stale = ahead(t, d, v, 1)
	must(t, d.Arm(0))
	told(t, "P10.1: of what has no checkpoint, and down", wrong, false, api.ErrArg)
	must(t, d.Crash(disk.Picks{Names: 9}), d.Rename("v3.2", "x"), d.SyncNames())
	must(t, laidOn(d, "v3.3", super(3, 3)))
	is(t, "a commit without the elder file", v.Commit(nil, 16), api.ErrNone)
	told(t, "P10.1: stale, of what had no checkpoint", stale, false, api.ErrStale)
}

// A writer that is over, or done, is over for good: another one goes on.
func TestAnotherWriter(t *testing.T) {
	d, v := begun(t, blob(7, 5))
	w := ahead(t, d, v, 2)
	must(t, compacted(d, v))
	told(t, "P10.1: a stale step", w, false, api.ErrStale)
	is(t, "P10.2: Write behind it", ckpt.Write(d, v), 0)
	before := with(files(d), "c3.2", point(v))
	finished(t, "P10.1: the stale writer", d, w)
	has(t, "P10.2: Write behind a stale writer", d, before)
	must(t, d.Crash(disk.Picks{}))
	opens(t, "P10.3: Write behind a stale writer", d, seen(v))
}
