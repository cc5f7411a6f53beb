package ckpt_test

import (
	"encoding/binary"
	"errors"
	"fmt"
	"hash/crc32"
	"maps"
	"slices"
	"testing"

	"corncrib/api"
	"corncrib/ckpt"
	"corncrib/disk"
	"corncrib/heads"
	"corncrib/needle"
	"corncrib/sample"
	"corncrib/vol"
)

const plenty = 1 << 20 // a capacity of no weight

// is asks that e is just this code, found by errors.Is; 0 is no error.
func is(t *testing.T, why string, e error, code api.Code) {
	t.Helper()
	if !sample.Is(e, code) {
		t.Errorf("%s: %v; want code %d", why, e, code)
	}
}

// must asks that nothing is wrong with what a test begins with.
func must(t *testing.T, errs ...error) {
	t.Helper()
	for i, e := range errs {
		if e != nil {
			t.Fatalf("call %d: %v", i, e)
		}
	}
}

// sure tells what was told without an error.
func sure[T any](x T, e error) T {
	if e != nil {
		panic(e)
	}
	return x
}

// blob tells a needle whose data hangs on its key.
func blob(key uint64, size int) api.Needle {
	return api.Needle{Key: key, Cookie: uint32(key) + 100, Data: sample.Bytes(size)}
}

// dead tells that the needle that blob tells is gone.
func dead(key uint64) api.Needle {
	return api.Needle{Key: key, Cookie: uint32(key) + 100, Gone: true}
}

// begun tells a disk, and volume 3 upon it, of the epoch 5, with needles.
func begun(t *testing.T, l ...api.Needle) (*disk.Disk, *vol.Vol) {
	t.Helper()
	d := sure(disk.New(plenty))
	v := sure(vol.Make(d, 3, api.MaxFile, 5))
	for _, n := range l {
		must(t, v.Lay(n))
	}
	return d, v
}

// compacted makes a volume one of its next generation.
func compacted(d *disk.Disk, v *vol.Vol) error {
	i := v.Info()
	gen := i.Gen + 1
	name, _, _, _ := heads.Names(i.Number, gen)
	b := []byte(super(i.Number, gen))
	l := v.Keys(0, api.MaxItems)
	for i, p := range l {
		raw, e := v.Raw(p)
		if e != nil {
			return e
		}
		l[i].Off = len(b)
		b = append(b, raw...)
	}
	for _, do := range []func() error{
		func() error { return d.Create(name) },
		func() error { return d.Append(name, b) },
		func() error { return d.Sync(name) },
		func() error { return v.Commit(l, len(b)) },
	} {
		if e := do(); e != nil {
			return e
		}
	}
	return nil
}

// kinds are volumes of all kinds, each on a disk of its own.
var kinds = map[string]func(t *testing.T) (*disk.Disk, *vol.Vol){
	"without needles": func(t *testing.T) (*disk.Disk, *vol.Vol) { return begun(t) },
	"of one":          func(t *testing.T) (*disk.Disk, *vol.Vol) { return begun(t, blob(7, 5)) },
	"of an empty one": func(t *testing.T) (*disk.Disk, *vol.Vol) { return begun(t, blob(1<<64-1, 0)) },
	"of some": func(t *testing.T) (*disk.Disk, *vol.Vol) {
		return begun(t, blob(9, 4096), blob(7, 5), dead(9), blob(0, 8), dead(6), blob(8, 33))
	},
	"of gone ones": func(t *testing.T) (*disk.Disk, *vol.Vol) { return begun(t, blob(7, 5), dead(7), dead(2)) },
	"sealed": func(t *testing.T) (*disk.Disk, *vol.Vol) {
		d, v := begun(t, blob(7, 5), dead(2))
		must(t, v.Set(5, true))
		return d, v
	},
	"of a higher epoch": func(t *testing.T) (*disk.Disk, *vol.Vol) {
		d, v := begun(t, blob(7, 5), dead(2))
		must(t, v.Set(1<<31-1, false))
		return d, v
	},
	"of a later generation": func(t *testing.T) (*disk.Disk, *vol.Vol) {
		d, v := begun(t, blob(7, 5), blob(2, 1))
		must(t, v.Del(7, 107), compacted(d, v), v.Put(blob(8, 8)), compacted(d, v), v.Put(blob(5, 9)))
		return d, v
	},
	"opened again": func(t *testing.T) (*disk.Disk, *vol.Vol) {
		d, v := begun(t, blob(7, 5), blob(2, 1))
		must(t, v.Del(7, 107), d.Crash(disk.Picks{}))
		return d, sure(vol.Open(d, 3, 1<<20))
	},
	"of the last number": func(t *testing.T) (*disk.Disk, *vol.Vol) {
		d := sure(disk.New(plenty))
		v := sure(vol.Make(d, 65535, 1<<20, 0))
		must(t, v.Put(blob(7, 5)))
		return d, v
	},
}

// names tells what the volume's files are called: the draft of its checkpoint,
// the checkpoint, and its data file.
func names(v *vol.Vol) (draft, point, data string) {
	i := v.Info()
	return fmt.Sprintf("c%d.0", i.Number), fmt.Sprintf("c%d.%d", i.Number, i.Gen), fmt.Sprintf("v%d.%d", i.Number, i.Gen)
}

var castagnoli = crc32.MakeTable(crc32.Castagnoli)

// point tells the bytes of a volume's checkpoint as the chapters tell them.
func point(v *vol.Vol) string {
	i, l := v.Info(), v.Keys(0, api.MaxItems)
	b := []byte("PKHC")
	word := binary.LittleEndian.AppendUint32
	for _, n := range []int{i.Number, i.Gen, i.Size, len(l)} {
		b = word(b, uint32(n))
	}
	for _, p := range l {
		b = binary.LittleEndian.AppendUint64(b, p.Key)
		b = word(word(word(b, uint32(p.Off)), uint32(p.Len)), p.Cookie)
		if p.Gone {
			b = word(b, 1)
		} else {
			b = word(b, 0)
		}
	}
	return string(word(b, crc32.Checksum(b, castagnoli)))
}

// files tells what a disk that isn't down has.
func files(d *disk.Disk) map[string]string {
	m := map[string]string{}
	for _, name := range d.Names() {
		m[name] = string(sure(d.Read(name, 0, sure(d.Size(name)))))
	}
	return m
}

// laidOn makes a file on a disk that lasts.
func laidOn(d *disk.Disk, name, text string) error {
	return errors.Join(d.Create(name), d.Append(name, []byte(text)), d.Sync(name), d.SyncNames())
}

func laid(t *testing.T, d *disk.Disk, name, text string) {
	t.Helper()
	must(t, laidOn(d, name, text))
}

// super tells the bytes ahead of a volume's file.
func super(volume, gen int) string {
	return string(sure(heads.PutSuper(heads.Super{Volume: volume, Gen: gen})))
}

// has asks that a disk has just these files.
func has(t *testing.T, why string, d *disk.Disk, want map[string]string) {
	t.Helper()
	if got := files(d); !maps.Equal(got, want) {
		t.Errorf("%s: files %q; want %q", why, got, want)
	}
}

// with tells files, and one more, or one with other bytes.
func with(m map[string]string, name, text string) map[string]string {
	m = maps.Clone(m)
	m[name] = text
	return m
}

// without tells files without some.
func without(m map[string]string, names ...string) map[string]string {
	m = maps.Clone(m)
	for _, name := range names {
		delete(m, name)
	}
	return m
}

// image is all that there is to be seen of a volume.
type image struct {
	i vol.Info
	l []api.Pos
}

func seen(v *vol.Vol) image {
	return image{v.Info(), v.Keys(0, api.MaxItems)}
}

func (m image) same(o image) bool {
	return m.i == o.i && slices.Equal(m.l, o.l)
}

// opens opens the volume again, and asks that it is as it was, and that its
// blobs are got.
func opens(t *testing.T, why string, d *disk.Disk, want image) *vol.Vol {
	t.Helper()
	v, e := vol.Open(d, want.i.Number, api.MaxFile)
	if e != nil {
		t.Fatalf("%s: Open: %v", why, e)
	}
	if got := seen(v); !got.same(want) {
		t.Fatalf("%s: Open: %+v; want %+v", why, got, want)
	}
	for _, p := range want.l {
		n, e := v.Get(p.Key, p.Cookie)
		if p.Gone {
			is(t, why+": Get of what is gone", e, api.ErrGone)
		} else if e != nil || !needle.Same(n, blob(p.Key, p.Len)) {
			t.Errorf("%s: Get(%d): %v, %v", why, p.Key, n, e)
		}
	}
	if i := slices.Index(d.Names(), fmt.Sprintf("c%d.0", want.i.Number)); i >= 0 {
		t.Errorf("%s: Open leaves the draft", why)
	}
	return v
}

// told asks what a step answers.
func told(t *testing.T, why string, w *ckpt.Writer, done bool, code api.Code) {
	t.Helper()
	got, e := w.Step()
	if got != done {
		t.Errorf("%s: done %v; want %v", why, got, done)
	}
	is(t, why, e, code)
}

// ahead tells a writer that has done so many steps.
func ahead(t *testing.T, d *disk.Disk, v *vol.Vol, steps int) *ckpt.Writer {
	t.Helper()
	w := sure(ckpt.New(d, v))
	for i := range steps {
		told(t, fmt.Sprint("P10.1: step ", i+1), w, i == 4, 0)
	}
	return w
}

// finished asks that a writer tells ErrDone, again and again, and does nothing.
func finished(t *testing.T, why string, d *disk.Disk, w *ckpt.Writer) {
	t.Helper()
	before, upto := files(d), w.Upto()
	must(t, d.Arm(1))
	for range 3 {
		told(t, why, w, false, api.ErrDone)
	}
	if d.Down() || w.Upto() != upto {
		t.Errorf("%s: down %v, Upto %d; want %d", why, d.Down(), w.Upto(), upto)
	}
	has(t, why, d, before)
	must(t, d.Arm(1<<30))
}

func TestNew(t *testing.T) {
	for why, kind := range kinds {
		why = "P10.1: New of a volume " + why
		d, v := kind(t)
		before, was := files(d), seen(v)
		for _, x := range []struct {
			d *disk.Disk
			v *vol.Vol
		}{{nil, nil}, {d, nil}, {nil, v}} {
			w, e := ckpt.New(x.d, x.v)
			if w != nil {
				t.Errorf("%s: a writer of nothing", why)
			}
			is(t, why+" of nothing", e, api.ErrNil)
			is(t, "P10.2: Write of nothing", ckpt.Write(x.d, x.v), api.ErrNil)
		}
		must(t, d.Arm(1))
		w, e := ckpt.New(d, v)
		is(t, why, e, 0)
		if w == nil || w.Upto() != 0 || d.Down() {
			t.Errorf("%s: %v, %d, down %v", why, w, w.Upto(), d.Down())
		}
		has(t, why, d, before)
		if got := seen(v); !got.same(was) {
			t.Errorf("%s: the volume is %v; was %v", why, got, was)
		}
	}
}

// New does nothing, so a disk that is down is of no weight to it.
func TestNewOfADiskThatIsDown(t *testing.T) {
	d, v := begun(t, blob(7, 5))
	must(t, d.Arm(0))
	w, e := ckpt.New(d, v)
	is(t, "P10.1: New of a disk that is down", e, 0)
	_, e = ckpt.New(d, nil)
	is(t, "P10.1: New of a disk that is down, and no volume", e, api.ErrNil)
	must(t, d.Crash(disk.Picks{}))
	told(t, "P10.1: the first step behind the crash", w, false, 0)
}

func TestNoWriter(t *testing.T) {
	var w *ckpt.Writer
	for range 2 {
		told(t, "P10.1: Step of no writer", w, false, api.ErrNil)
		if n := w.Upto(); n != 0 {
			t.Errorf("P10.1: Upto of no writer: %d", n)
		}
	}
}

// One that New didn't make does nothing, and ends.
func TestAWriterOfNobody(t *testing.T) {
	w := &ckpt.Writer{}
	if done, e := w.Step(); done || e == nil {
		t.Errorf("R1: Step of a writer of nobody: %v, %v", done, e)
	}
	for range 2 {
		told(t, "R1: Step of a writer of nobody", w, false, api.ErrDone)
	}
	if n := w.Upto(); n != 0 {
		t.Errorf("R1: Upto of a writer of nobody: %d", n)
	}
}

// A volume that nobody made has no checkpoint that may be.
func TestAVolumeOfNobody(t *testing.T) {
	d := sure(disk.New(plenty))
	w := ahead(t, d, &vol.Vol{}, 1)
	told(t, "P10.1: Step of a volume of nobody", w, false, api.ErrArg)
	finished(t, "P10.1: behind it", d, w)
	is(t, "P10.2: Write of a volume of nobody", ckpt.Write(d, &vol.Vol{}), api.ErrArg)
}

// A disk of its own has the checkpoint just so: the writer asks the volume for
// what it is, not for where it is.
func TestAnotherDisk(t *testing.T) {
	d, v := begun(t, blob(7, 5))
	before := files(d)
	other := sure(disk.New(plenty))
	is(t, "P10.2: Write on another disk", ckpt.Write(other, v), 0)
	has(t, "P10.2: Write on another disk", other, map[string]string{"c3.1": point(v)})
	has(t, "P10.2: the volume's disk", d, before)
}

// The chapter's example.
func TestExample(t *testing.T) {
	d := sure(disk.New(1 << 20))
	v := sure(vol.Make(d, 1, 1<<20, 0))
	is(t, "P10.2: Write", ckpt.Write(d, v), 0)
	if l := d.Names(); !slices.Equal(l, []string{"c1.1", "m1", "v1.1"}) {
		t.Errorf("P10.2: Write: %v", l)
	}
	w := sure(ckpt.New(d, v))
	for i := range 5 {
		told(t, fmt.Sprint("P10.1: step ", i+1), w, i == 4, 0)
	}
	told(t, "P10.1: behind the fifth step", w, false, api.ErrDone)
}

// Write is all steps: behind any crash its checkpoint is there.
func TestWrite(t *testing.T) {
	for why, kind := range kinds {
		for _, junk := range []bool{false, true} {
			why := fmt.Sprintf("P10.2: Write of a volume %s, junk there %v", why, junk)
			d, v := kind(t)
			draft, file, _ := names(v)
			want := with(files(d), file, point(v))
			if junk {
				laid(t, d, draft, "junk")
				laid(t, d, file, "more junk")
			}
			was := seen(v)
			for range 2 {
				is(t, why, ckpt.Write(d, v), 0)
				has(t, why, d, want)
				if got := seen(v); !got.same(was) {
					t.Errorf("%s: the volume is %v; was %v", why, got, was)
				}
				must(t, d.Crash(disk.Picks{}))
				has(t, why+", and a crash", d, want)
			}
			opens(t, why, d, was)
			has(t, why+", and Open", d, want)
		}
	}
}

// A full index has the greatest checkpoint.
func TestWriteOfAFullIndex(t *testing.T) {
	var l []api.Needle
	for i := range api.MaxItems {
		l = append(l, blob(uint64(i)*7919%65536, i%3))
	}
	d, v := begun(t, l...)
	is(t, "P10.2: Write of a full index", ckpt.Write(d, v), 0)
	if got := files(d)["c3.1"]; got != point(v) || len(got) != 24+24*4096 {
		t.Errorf("P10.2: Write of a full index: %d bytes", len(got))
	}
	must(t, d.Crash(disk.Picks{}))
	opens(t, "P10.3: of a full index", d, seen(v))
}

// Two volumes on one disk have nothing to do with each other.
func TestTwoVolumes(t *testing.T) {
	d, v := begun(t, blob(7, 5))
	o := sure(vol.Make(d, 33, 1<<20, 0))
	must(t, o.Put(blob(7, 6)), o.Put(blob(8, 6)))
	a, b := sure(ckpt.New(d, v)), sure(ckpt.New(d, o))
	for i := range 5 {
		told(t, "P10.1: Step of one volume", a, i == 4, 0)
		told(t, "P10.1: Step of another volume", b, i == 4, 0)
	}
	want := with(with(without(files(d), "c3.1", "c33.1"), "c3.1", point(v)), "c33.1", point(o))
	has(t, "P10.1: two volumes", d, want)
	must(t, compacted(d, v), o.Put(blob(9, 6)))
	told(t, "P10.1: behind a commit of one volume", a, false, api.ErrDone)
	is(t, "P10.2: Write of the other one", ckpt.Write(d, o), 0)
	if got := files(d); got["c33.1"] != point(o) || len(got) != 5 {
		t.Errorf("P10.2: Write of the other one: %q", got)
	}
	must(t, d.Crash(disk.Picks{}))
	opens(t, "P10.3: two volumes", d, seen(v))
	opens(t, "P10.3: two volumes", d, seen(o))
}
