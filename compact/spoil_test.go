package compact_test

import (
	"bytes"
	"errors"
	"fmt"
	"slices"
	"testing"

	"corncrib/api"
	"corncrib/compact"
	"corncrib/disk"
	"corncrib/needle"
	"corncrib/sample"
	"corncrib/vol"
)

// turned tells which error a needle of 5 bytes of data has with a bit turned, and
// how likely: of the length it may be one of three.
func turned(bit int) []api.Code {
	switch i := bit / 8; {
	case i < 4, i >= 28 && i < 32, i >= 37:
		return []api.Code{api.ErrForm}
	case i >= 4 && i < 8:
		// Another flag, or one that is gone with data.
		return []api.Code{api.ErrForm}
	case i >= 20 && i < 24:
		return []api.Code{api.ErrShort, api.ErrForm, api.ErrSum}
	}
	return []api.Code{api.ErrSum}
}

// spoiltStep asks that a step tells a spoilt needle's error at a place, removes
// the file, and leaves all else as it is. Ahead of the removal it does so many deeds.
func spoiltStep(t *testing.T, why string, d *disk.Disk, v *vol.Vol, c *compact.Compactor, deeds, off int, codes ...api.Code) {
	t.Helper()
	data, next, _ := names(v)
	before, was := without(files(d), next), seen(v)
	must(t, d.Arm(deeds+2))
	done, e := c.Step()
	var at *api.At
	if done || !errors.As(e, &at) || at.File != data || at.Off != off {
		t.Fatalf("%s: %v, %v; want it at %s, %d", why, done, e, data, off)
	}
	if !slices.ContainsFunc(codes, func(code api.Code) bool { return sample.Is(e, code) }) {
		t.Fatalf("%s: %v, %v; want one of %v", why, e, at.Err, codes)
	}
	if d.Down() {
		t.Fatalf("%s: more than %d deeds, and the removal", why, deeds)
	}
	must(t, d.SyncNames())
	if !d.Down() {
		t.Errorf("%s: fewer than %d deeds, and the removal", why, deeds)
	}
	must(t, d.Crash(disk.Picks{}))
	has(t, why, d, before)
	if got := seen(v); !got.same(was) {
		t.Errorf("%s: the volume is %+v; was %+v", why, got, was)
	}
	finished(t, why, d, c)
}

// Each bit of a needle: the step that comes to it tells it, those ahead of it
// don't.
func TestSpoiltNeedle(t *testing.T) {
	for bit := range 8 * 40 {
		why := fmt.Sprintf("P11.1: bit %d of a needle turned", bit)
		d, v := begun(t, blob(7, 9), blob(8, 5), blob(9, 5))
		was := seen(v)
		off := 16 + 48
		c := ahead(t, d, v, 2)
		must(t, d.Spoil("v3.1", off+bit/8, 1<<(bit%8)))
		spoiltStep(t, why, d, v, c, 0, off, turned(bit)...)
		e := compact.Run(d, v)
		isAt(t, "P11.2: Run, "+why, e, codeOf(e), "v3.1", off)
		// What is mended is copied.
		must(t, d.Spoil("v3.1", off+bit/8, 1<<(bit%8)))
		is(t, why+", and back, Run", compact.Run(d, v), 0)
		opens(t, why+", and back", d, was)
	}
}

// codeOf tells the code of an error.
func codeOf(e error) api.Code {
	for c := api.ErrArg; c <= api.ErrWait; c++ {
		if errors.Is(e, c) {
			return c
		}
	}
	return 0
}

// Which needle is spoilt, and of which kind it is, plays no part: the first one by
// its place is told, of the key that is gone, too.
func TestSpoiltPlaces(t *testing.T) {
	for kind := range kinds {
		_, v := kinds[kind](t)
		l := places(v)
		for i := range l {
			for j := i; j < len(l); j++ {
				for which, spoil := range map[string]struct {
					off  int
					code api.Code
				}{"magic": {0, api.ErrForm}, "key": {9, api.ErrSum}, "sum": {27, api.ErrSum}, "noughts": {31, api.ErrForm}} {
					why := fmt.Sprintf("P11.1: of a volume %s, the %s of needles %d and %d spoilt", kind, which, i, j)
					d, v := kinds[kind](t)
					data, _, _ := names(v)
					must(t, d.Spoil(data, l[i].Off+spoil.off, 1))
					if j != i {
						must(t, d.Spoil(data, l[j].Off+spoil.off, 255))
					}
					c := ahead(t, d, v, 1+i)
					spoiltStep(t, why, d, v, c, 0, l[i].Off, spoil.code)
				}
			}
		}
	}
}

// A file that is cut: the first needle that isn't whole is told as too short.
func TestCutDataFile(t *testing.T) {
	_, v := begun(t, ground...)
	l, size := places(v), v.Info().Size
	for n := range size {
		why := fmt.Sprintf("P11.1: a data file that is cut to %d bytes", n)
		d, v := begun(t, ground...)
		must(t, d.Cut("v3.1", n))
		i := slices.IndexFunc(l, func(p api.Pos) bool { return p.Off+needle.Size(p.Len) > n })
		c := ahead(t, d, v, 1+i)
		spoiltStep(t, why, d, v, c, 0, l[i].Off, api.ErrShort)
		isAt(t, "P11.2: Run, "+why, compact.Run(d, v), api.ErrShort, "v3.1", l[i].Off)
	}
}

// Another needle at the place is as wrong as a spoilt one, though its sum is right.
func TestAnotherNeedle(t *testing.T) {
	for i, n := range []api.Needle{blob(7, 5), dead(7)} {
		wrong := map[string]struct {
			n    api.Needle
			code api.Code
		}{
			"another key":    {api.Needle{Key: 8, Cookie: n.Cookie, Gone: n.Gone, Data: n.Data}, api.ErrForm},
			"another cookie": {api.Needle{Key: 7, Cookie: n.Cookie + 1, Gone: n.Gone, Data: n.Data}, api.ErrForm},
			"one of no data": {api.Needle{Key: 7, Cookie: n.Cookie, Gone: i == 0}, api.ErrForm},
			"a shorter one":  {blob(7, 4-4*i), api.ErrForm},
			"a bit longer":   {blob(7, 6-6*i), api.ErrForm},
			"a longer one":   {blob(7, 9), api.ErrShort},
		}
		for what, w := range wrong {
			if needle.Same(w.n, n) {
				continue
			}
			why := fmt.Sprintf("P11.1: %s in place of %v", what, n)
			d, v := begun(t, n)
			was := seen(v)
			must(t, d.Cut("v3.1", 16), d.Append("v3.1", []byte(text(w.n, blob(99, 200)))), d.Sync("v3.1"))
			spoiltStep(t, why, d, v, ahead(t, d, v, 1), 0, 16, w.code)
			isAt(t, "P11.2: Run, "+why, compact.Run(d, v), w.code, "v3.1", 16)
			must(t, d.Cut("v3.1", 16), d.Append("v3.1", []byte(text(n))), d.Sync("v3.1"))
			is(t, why+", and back, Run", compact.Run(d, v), 0)
			opens(t, why+", and back", d, was)
		}
	}
	// Other data under the same head is nobody's to tell: its sum is right.
	d, v := begun(t, blob(7, 5))
	other := blob(7, 5)
	other.Data[0]++
	must(t, d.Cut("v3.1", 16), d.Append("v3.1", []byte(text(other))))
	is(t, "P11.2: Run of other data", compact.Run(d, v), 0)
	if n, e := v.Get(7, 107); e != nil || !needle.Same(n, other) {
		t.Errorf("P11.2: Run of other data: %v, %v", n, e)
	}
}

// What isn't copied isn't looked at: elder needles, and those that were copied.
func TestSpoiltWhereNobodyLooks(t *testing.T) {
	// The blob of a key that is gone, and the superblock.
	d, v := begun(t, ground...)
	was := seen(v)
	must(t, d.Spoil("v3.1", 3, 1), d.Spoil("v3.1", 16+40+3, 255))
	is(t, "P11.2: Run with a spoilt elder needle", compact.Run(d, v), 0)
	opens(t, "P11.3: with a spoilt elder needle", d, was)
	// One that is deleted behind the first step.
	d, v = begun(t, ground...)
	c := ahead(t, d, v, 1)
	must(t, d.Spoil("v3.1", 16+3, 255), v.Del(7, 107))
	was = seen(v)
	ends(t, "P11.1: with a spoilt needle that was deleted", c)
	opens(t, "P11.3: with a spoilt needle that was deleted", d, was)
	// One that was copied, and is the newest still: the copy is whole.
	d, v = begun(t, ground...)
	was = seen(v)
	c = ahead(t, d, v, 2)
	must(t, d.Spoil("v3.1", 16+3, 255), d.Spoil("v3.1", 16+33, 255))
	ends(t, "P11.1: with a spoilt needle that was copied", c)
	keeps(t, "P11.3: with a spoilt needle that was copied", v, was)
	opens(t, "P11.3: with a spoilt needle that was copied", d, was)
}

// The last step looks at what it copies, too: at what is new, and, if an elder
// copy is cut off, at all.
func TestSpoiltInTheLastStep(t *testing.T) {
	for _, gap := range []int{1, 2, 3, 4} {
		d, v := begun(t, ground...)
		c := ahead(t, d, v, gap)
		must(t, v.Put(blob(20, 3)), d.Spoil("v3.1", v.Info().Size-40+32, 1))
		for range c.Left() {
			told(t, "P11.1: with a spoilt new needle", c, false, 0)
		}
		spoiltStep(t, "P11.1: with a spoilt new needle", d, v, c, 0, v.Info().Size-40, api.ErrSum)
		// Of three that were copied one is gone now, and another one is spoilt: the file
		// is cut, and one is copied.
		d, v = begun(t, ground...)
		c = ahead(t, d, v, 4)
		must(t, v.Del(7, 107), d.Spoil("v3.1", 16+40+48+32+32, 1))
		spoiltStep(t, "P11.1: with a spoilt needle that was copied, and one that is gone", d, v, c, 2, 16+40+48+32, api.ErrSum)
	}
}

// The disk's errors aren't told as a spoilt needle's, and are found as they are.
func TestDisksErrorsAreBare(t *testing.T) {
	bare := func(why string, e error, code api.Code) {
		t.Helper()
		is(t, why, e, code)
		var at *api.At
		if errors.As(e, &at) {
			t.Errorf("%s: %v; want it bare", why, e)
		}
	}
	d, v := begun(t, ground...)
	c := ahead(t, d, v, 1)
	must(t, d.Rename("v3.1", "x"))
	_, e := c.Step()
	bare("P11.1: without the data file", e, api.ErrNone)
	bare("P11.2: Run without the data file", compact.Run(d, v), api.ErrNone)
	must(t, d.Rename("x", "v3.1"))
	c = ahead(t, d, v, 1)
	must(t, d.Arm(0))
	_, e = c.Step()
	bare("P11.1: of a disk that is down", e, api.ErrDown)
	bare("P11.2: Run of a disk that is down", compact.Run(d, v), api.ErrDown)
	// A Commit may tell places that no file has.
	d, v = begun(t, ground...)
	laid(t, d, "v3.2", files(d)["v3.1"])
	must(t, v.Commit([]api.Pos{{Key: 7, Off: -1, Len: 5}, {Key: 8, Off: 16, Len: 9}}, v.Info().Size))
	c = ahead(t, d, v, 1)
	_, e = c.Step()
	bare("P11.1: of a place below 0", e, api.ErrArg)
	finished(t, "P11.1: of a place below 0", d, c)
	bare("P11.2: Run of a place below 0", compact.Run(d, v), api.ErrArg)
}

// Positions of a Commit may be such as no needle has.
func TestPositionsThatCannotBe(t *testing.T) {
	for _, p := range []api.Pos{{Off: 9999}, {Off: 9999, Len: -1}, {Off: 16, Len: -1}, {Off: 16, Len: 4097}, {Off: 16, Len: 4096}, {Off: 17, Len: 5}, {Off: 1 << 62}, {Off: 1<<63 - 1, Len: 4096}, {Off: 9999, Len: -1 << 63}} {
		why := fmt.Sprintf("P11.1: of %+v", p)
		d, v := begun(t, blob(7, 5), blob(8, 5))
		laid(t, d, "v3.2", super(3, 2)+files(d)["v3.1"][16:])
		p.Key, p.Cookie = 7, 107
		must(t, v.Commit([]api.Pos{p, {Key: 9, Off: 56, Len: 5, Cookie: 109}}, v.Info().Size))
		e := compact.Run(d, v)
		var at *api.At
		if !errors.As(e, &at) || at.File != "v3.2" || codeOf(e) != api.ErrShort && codeOf(e) != api.ErrForm {
			t.Errorf("%s: %v", why, e)
		}
		has(t, why, d, with(without(files(d), "v3.3"), "m3", manifest(v, 2)))
		if n := compact.Least(v); n < 16 || n > 16+40+4128 {
			t.Errorf("P11.2: Least of %+v: %d", p, n)
		}
	}
}

// Somebody else may write to the file, or another compactor begin it anew: the
// last step sees it, and writes all anew; the elder file doesn't go ahead of that.
func TestTouchedFile(t *testing.T) {
	for what, touch := range map[string]func(d *disk.Disk) error{
		"longer":                func(d *disk.Disk) error { return d.Append("v3.2", []byte{0}) },
		"longer by a needle":    func(d *disk.Disk) error { return d.Append("v3.2", []byte(text(blob(9, 20)))) },
		"cut":                   func(d *disk.Disk) error { return d.Cut("v3.2", 16) },
		"empty":                 func(d *disk.Disk) error { return d.Cut("v3.2", 0) },
		"without its last byte": func(d *disk.Disk) error { return d.Cut("v3.2", sure(d.Size("v3.2"))-1) },
		"of a spoilt number":    func(d *disk.Disk) error { return d.Spoil("v3.2", 0, 1) },
		"of a spoilt sum":       func(d *disk.Disk) error { return d.Spoil("v3.2", 15, 128) },
		"of a spoilt copy":      func(d *disk.Disk) error { return d.Spoil("v3.2", sure(d.Size("v3.2"))-1, 1) },
		"of another volume": func(d *disk.Disk) error {
			b := files(d)["v3.2"]
			return errors.Join(d.Remove("v3.2"), laidOn(d, "v3.2", super(4, 2)+b[16:]))
		},
		"of another generation": func(d *disk.Disk) error {
			b := files(d)["v3.2"]
			return errors.Join(d.Remove("v3.2"), laidOn(d, "v3.2", super(3, 1)+b[16:]))
		},
		"another one": func(d *disk.Disk) error {
			n := sure(d.Size("v3.2"))
			return errors.Join(d.Remove("v3.2"), laidOn(d, "v3.2", string(bytes.Repeat([]byte{7}, n))))
		},
		"of copies in another order": func(d *disk.Disk) error {
			if sure(d.Size("v3.2")) < 16+40+32 {
				return nil
			}
			b := files(d)["v3.2"]
			return errors.Join(d.Remove("v3.2"), laidOn(d, "v3.2", super(3, 2)+text(dead(8), blob(7, 5))+b[16+40+32:]))
		},
	} {
		for steps := 1; steps < 5; steps++ {
			for _, more := range []int{0, 1, 2} {
				why := fmt.Sprintf("P11.3: %d steps, the file is %s, and %d acts", steps, what, more)
				d, v := begun(t, ground...)
				c := ahead(t, d, v, steps)
				must(t, touch(d))
				if more > 0 {
					must(t, v.Put(blob(20, 3)))
				}
				if more > 1 {
					must(t, v.Del(7, 107))
				}
				was, want := seen(v), behind(d, v)
				ends(t, why, c)
				has(t, why, d, want)
				keeps(t, why, v, was)
				if v.Info().Size != compact.Least(v) {
					t.Errorf("%s: size %d, Least %d", why, v.Info().Size, compact.Least(v))
				}
				finished(t, why, d, c)
				must(t, d.Crash(disk.Picks{}))
				has(t, why+", and a crash", d, want)
				opens(t, why, d, was)
			}
		}
	}
}
