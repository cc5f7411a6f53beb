package compact_test

import (
	"cmp"
	"errors"
	"fmt"
	"maps"
	"math"
	"slices"
	"testing"

	"corncrib/api"
	"corncrib/ckpt"
	"corncrib/compact"
	"corncrib/disk"
	"corncrib/heads"
	"corncrib/needle"
	"corncrib/sample"
	"corncrib/vol"
)

const plenty = 1 << 14 // a capacity of no weight

// is asks that e is just this code, found by errors.Is; 0 is no error.
func is(t *testing.T, why string, e error, code api.Code) {
	t.Helper()
	if !sample.Is(e, code) {
		t.Errorf("%s: %v; want code %d", why, e, code)
	}
}

// isAt asks that e is just this code, wrapped in an api.At of this place.
func isAt(t *testing.T, why string, e error, code api.Code, file string, off int) {
	t.Helper()
	is(t, why, e, code)
	var at *api.At
	if !errors.As(e, &at) || at.File != file || at.Off != off {
		t.Errorf("%s: %v; want it at %s, %d", why, e, file, off)
	}
}

// must asks that nothing is wrong with what a test begins with.
func must(t *testing.T, errs ...error) {
	t.Helper()
	for i, e := range errs {
		if e != nil {
			t.Fatalf("call %d: %v", i, e)
		}
	}
}

// sure tells what was told without an error.
func sure[T any](x T, e error) T {
	if e != nil {
		panic(e)
	}
	return x
}

// blob tells a needle whose data hangs on its size alone.
func blob(key uint64, size int) api.Needle {
	return api.Needle{Key: key, Cookie: uint32(key) + 100, Data: sample.Bytes(size)}
}

// dead tells that the needle that blob tells is gone.
func dead(key uint64) api.Needle {
	return api.Needle{Key: key, Cookie: uint32(key) + 100, Gone: true}
}

// text tells the bytes of needles one behind the other.
func text(l ...api.Needle) string {
	var b []byte
	for _, n := range l {
		b = append(b, sure(needle.Put(n))...)
	}
	return string(b)
}

// super tells the bytes ahead of a volume's file.
func super(volume, gen int) string {
	return string(sure(heads.PutSuper(heads.Super{Volume: volume, Gen: gen})))
}

// manifest tells the bytes of a volume's manifest, as if it had a generation.
func manifest(v *vol.Vol, gen int) string {
	i := v.Info()
	return string(sure(heads.PutManifest(heads.Manifest{Volume: i.Number, Gen: gen, Epoch: i.Epoch, Sealed: i.Sealed})))
}

// names tells what files of a volume are called: its data file, that of the next
// generation, and its checkpoint.
func names(v *vol.Vol) (data, next, point string) {
	i := v.Info()
	return fmt.Sprintf("v%d.%d", i.Number, i.Gen), fmt.Sprintf("v%d.%d", i.Number, i.Gen+1), fmt.Sprintf("c%d.%d", i.Number, i.Gen)
}

// begun tells a disk, and volume 3 upon it, of the epoch 5, with needles.
func begun(t *testing.T, l ...api.Needle) (*disk.Disk, *vol.Vol) {
	t.Helper()
	d := sure(disk.New(plenty))
	return d, made(t, d, l...)
}

// made tells volume 3 upon a disk.
func made(t *testing.T, d *disk.Disk, l ...api.Needle) *vol.Vol {
	t.Helper()
	v := sure(vol.Make(d, 3, api.MaxFile, 5))
	for _, n := range l {
		must(t, v.Lay(n))
	}
	return v
}

// places tells a volume's positions by their places.
func places(v *vol.Vol) []api.Pos {
	l := v.Keys(0, math.MaxInt)
	slices.SortFunc(l, func(a, b api.Pos) int { return cmp.Compare(a.Off, b.Off) })
	return l
}

// part tells the bytes of the needle at a position of a file.
func part(file string, p api.Pos) string {
	return file[p.Off : p.Off+(32+p.Len+7)/8*8]
}

// fresh tells the file that a compaction of a volume should come to, if it is
// copied as it is now, and the positions in it, by their keys.
func fresh(d *disk.Disk, v *vol.Vol) (string, []api.Pos) {
	data, _, _ := names(v)
	file, i := files(d)[data], v.Info()
	s, l := super(i.Number, i.Gen+1), places(v)
	for i, p := range l {
		l[i].Off = len(s)
		s += part(file, p)
	}
	slices.SortFunc(l, func(a, b api.Pos) int { return cmp.Compare(a.Key, b.Key) })
	return s, l
}

// byHand makes a volume one of its next generation, whoever writes there else.
func byHand(d *disk.Disk, v *vol.Vol) error {
	_, next, _ := names(v)
	if slices.Contains(d.Names(), next) {
		if e := d.Remove(next); e != nil {
			return e
		}
	}
	s, l := fresh(d, v)
	if e := laidOn(d, next, s); e != nil {
		return e
	}
	return v.Commit(l, len(s))
}

// files tells what a disk that isn't down has.
func files(d *disk.Disk) map[string]string {
	m := map[string]string{}
	for _, name := range d.Names() {
		m[name] = string(sure(d.Read(name, 0, sure(d.Size(name)))))
	}
	return m
}

// laidOn makes a file on a disk that lasts; its name may not.
func laidOn(d *disk.Disk, name, text string) error {
	if e := d.Create(name); e != nil {
		return e
	}
	if e := d.Append(name, []byte(text)); e != nil {
		return e
	}
	return d.Sync(name)
}

func laid(t *testing.T, d *disk.Disk, name, text string) {
	t.Helper()
	must(t, laidOn(d, name, text), d.SyncNames())
}

// has asks that a disk has just these files.
func has(t *testing.T, why string, d *disk.Disk, want map[string]string) {
	t.Helper()
	if got := files(d); !maps.Equal(got, want) {
		t.Errorf("%s: files %s; want %s", why, brief(got), brief(want))
	}
}

// brief tells files in few words, however long they are.
func brief(m map[string]string) string {
	s := ""
	for _, name := range slices.Sorted(maps.Keys(m)) {
		s += fmt.Sprintf("%s (%d) %.400q ", name, len(m[name]), m[name])
	}
	return s
}

// with tells files, and one more, or one with other bytes.
func with(m map[string]string, name, text string) map[string]string {
	m = maps.Clone(m)
	m[name] = text
	return m
}

// without tells files without some.
func without(m map[string]string, names ...string) map[string]string {
	m = maps.Clone(m)
	for _, name := range names {
		delete(m, name)
	}
	return m
}

// behind tells the files behind a compaction of a volume as it is now.
func behind(d *disk.Disk, v *vol.Vol) map[string]string {
	data, next, point := names(v)
	s, _ := fresh(d, v)
	m := with(without(files(d), data, point, fmt.Sprintf("m%d.t", v.Info().Number)), next, s)
	return with(m, fmt.Sprintf("m%d", v.Info().Number), manifest(v, v.Info().Gen+1))
}

// image is all that there is to be seen of a volume.
type image struct {
	i vol.Info
	l []api.Pos
}

func seen(v *vol.Vol) image {
	return image{v.Info(), v.Keys(0, math.MaxInt)}
}

func (m image) same(o image) bool {
	return m.i == o.i && slices.Equal(m.l, o.l)
}

// content is an image but for where all stands.
func (m image) content() image {
	m.i.Gen, m.i.Size = 0, 0
	m.l = slices.Clone(m.l)
	for i := range m.l {
		m.l[i].Off = 0
	}
	return m
}

// keeps asks that a volume has what it had, wherever it stands, and that all is
// got.
func keeps(t *testing.T, why string, v *vol.Vol, want image) {
	t.Helper()
	if got := seen(v); !got.content().same(want.content()) {
		t.Fatalf("%s: %+v; want what is in %+v", why, got, want)
	}
	for _, p := range want.l {
		n, e := v.Get(p.Key, p.Cookie)
		if p.Gone {
			is(t, why+": Get of what is gone", e, api.ErrGone)
		} else if e != nil || !needle.Same(n, blob(p.Key, p.Len)) {
			t.Errorf("%s: Get(%d): %v, %v", why, p.Key, n, e)
		}
	}
}

// opens opens a volume again, and asks that it has what it had, and that nothing
// is left beside it.
func opens(t *testing.T, why string, d *disk.Disk, want image) *vol.Vol {
	t.Helper()
	v, e := vol.Open(d, want.i.Number, api.MaxFile)
	if e != nil {
		t.Fatalf("%s: Open: %v", why, e)
	}
	keeps(t, why+", and Open", v, want)
	data, _, point := names(v)
	for _, name := range d.Names() {
		// What begins with an x is the tests' own.
		if name[0] != 'x' && !slices.Contains([]string{fmt.Sprint("m", want.i.Number), data, point}, name) {
			t.Errorf("%s: Open leaves %s", why, name)
		}
	}
	return v
}

// told asks what a step answers.
func told(t *testing.T, why string, c *compact.Compactor, done bool, code api.Code) {
	t.Helper()
	got, e := c.Step()
	if got != done {
		t.Errorf("%s: done %v; want %v", why, got, done)
	}
	is(t, why, e, code)
}

// left asks how many positions a compactor hasn't gone over.
func left(t *testing.T, why string, c *compact.Compactor, n int) {
	t.Helper()
	if got := c.Left(); got != n {
		t.Errorf("%s: Left %d; want %d", why, got, n)
	}
}

// ahead tells a compactor that has done so many steps, none of them the last one.
func ahead(t *testing.T, d *disk.Disk, v *vol.Vol, steps int) *compact.Compactor {
	t.Helper()
	c := sure(compact.New(d, v))
	for i := range steps {
		told(t, fmt.Sprint("P11.1: step ", i+1), c, false, 0)
	}
	return c
}

// ends does all steps that are left.
func ends(t *testing.T, why string, c *compact.Compactor) {
	t.Helper()
	for range c.Left() {
		told(t, why, c, false, 0)
	}
	told(t, why+", the last step", c, true, 0)
}

// finished asks that a compactor tells ErrDone, again and again, and does nothing.
func finished(t *testing.T, why string, d *disk.Disk, c *compact.Compactor) {
	t.Helper()
	before := files(d)
	must(t, d.Arm(1))
	for range 3 {
		told(t, why, c, false, api.ErrDone)
		left(t, why, c, 0)
	}
	if d.Down() {
		t.Errorf("%s: it did a deed", why)
	}
	has(t, why, d, before)
	must(t, d.Arm(1<<30))
}

// every tells a pick for each file.
func every(names int, p disk.Pick) disk.Picks {
	return disk.Picks{Names: names, Files: slices.Repeat([]disk.Pick{p}, 100)}
}

// kinds are volumes of all kinds, each on a disk of its own.
var kinds = map[string]func(t *testing.T) (*disk.Disk, *vol.Vol){
	"without needles": func(t *testing.T) (*disk.Disk, *vol.Vol) { return begun(t) },
	"of one":          func(t *testing.T) (*disk.Disk, *vol.Vol) { return begun(t, blob(7, 5)) },
	"of an empty one": func(t *testing.T) (*disk.Disk, *vol.Vol) { return begun(t, blob(1<<64-1, 0)) },
	"of blobs": func(t *testing.T) (*disk.Disk, *vol.Vol) {
		return begun(t, blob(9, 4096), blob(7, 5), blob(0, 8), blob(1<<64-1, 0), blob(8, 33))
	},
	"of some": func(t *testing.T) (*disk.Disk, *vol.Vol) {
		return begun(t, blob(9, 40), blob(7, 5), dead(9), blob(0, 8), dead(6), blob(8, 33))
	},
	"of one that is gone": func(t *testing.T) (*disk.Disk, *vol.Vol) { return begun(t, blob(7, 5), dead(7)) },
	"of gone ones": func(t *testing.T) (*disk.Disk, *vol.Vol) {
		return begun(t, blob(7, 5), dead(7), dead(2), blob(1, 1), dead(1))
	},
	"sealed": func(t *testing.T) (*disk.Disk, *vol.Vol) {
		d, v := begun(t, blob(7, 5), dead(2), blob(1, 1))
		must(t, v.Set(5, true))
		return d, v
	},
	"of a higher epoch": func(t *testing.T) (*disk.Disk, *vol.Vol) {
		d, v := begun(t, blob(7, 5), dead(2))
		must(t, v.Set(1<<31-1, false))
		return d, v
	},
	"of a later generation": func(t *testing.T) (*disk.Disk, *vol.Vol) {
		d, v := begun(t, blob(7, 5), blob(2, 1))
		must(t, v.Del(7, 107), byHand(d, v), v.Put(blob(8, 8)), byHand(d, v), v.Put(blob(5, 9)), v.Del(2, 102))
		return d, v
	},
	"opened again": func(t *testing.T) (*disk.Disk, *vol.Vol) {
		d, v := begun(t, blob(7, 5), blob(2, 1))
		must(t, v.Del(7, 107), d.Crash(disk.Picks{}))
		return d, sure(vol.Open(d, 3, api.MaxFile))
	},
	"of the last number": func(t *testing.T) (*disk.Disk, *vol.Vol) {
		d := sure(disk.New(plenty))
		v := sure(vol.Make(d, 65535, 1<<20, 0))
		must(t, v.Put(blob(7, 5)))
		return d, v
	},
	"with a checkpoint": func(t *testing.T) (*disk.Disk, *vol.Vol) {
		d, v := begun(t, blob(7, 5), blob(2, 1))
		must(t, ckpt.Write(d, v), v.Del(7, 107))
		return d, v
	},
	"with a shadow": func(t *testing.T) (*disk.Disk, *vol.Vol) {
		d, v := begun(t, blob(7, 5), blob(2, 1))
		laid(t, d, "m3.t", "junk")
		return d, v
	},
}

// olds tells what may stand under the name of the next generation's file already:
// "-" is no file.
func olds(v *vol.Vol) []string {
	i := v.Info()
	s := super(i.Number, i.Gen+1)
	return []string{"-", "", "junk", s, s + text(blob(7, 5), blob(99, 1)), string(make([]byte, 200))}
}

// placed goes over all kinds of volumes, and all that may be there already.
func placed(t *testing.T, do func(why, kind, old string)) {
	for kind := range kinds {
		_, v := kinds[kind](t)
		for _, old := range olds(v) {
			do(fmt.Sprintf("of a volume %s, with %.20q there", kind, old), kind, old)
		}
	}
}

// place begins with a volume of a kind, and lays what is there already.
func place(t *testing.T, kind, old string) (*disk.Disk, *vol.Vol) {
	t.Helper()
	d, v := kinds[kind](t)
	if _, next, _ := names(v); old != "-" {
		laid(t, d, next, old)
	}
	return d, v
}

func TestNew(t *testing.T) {
	placed(t, func(why, kind, old string) {
		d, v := place(t, kind, old)
		before, was := files(d), seen(v)
		must(t, d.Arm(1))
		for _, x := range []struct {
			d *disk.Disk
			v *vol.Vol
		}{{nil, nil}, {d, nil}, {nil, v}} {
			c, e := compact.New(x.d, x.v)
			if c != nil {
				t.Errorf("P11.1: New %s: a compactor of nothing", why)
			}
			is(t, "P11.1: New of nothing", e, api.ErrNil)
			is(t, "P11.2: Run of nothing", compact.Run(x.d, x.v), api.ErrNil)
		}
		c, e := compact.New(d, v)
		is(t, "P11.1: New "+why, e, 0)
		if c == nil || c.Left() != 0 || d.Down() {
			t.Fatalf("P11.1: New %s: %v, down %v", why, c, d.Down())
		}
		has(t, "P11.1: New "+why, d, before)
		if got := seen(v); !got.same(was) {
			t.Errorf("P11.1: New %s: the volume is %v; was %v", why, got, was)
		}
	})
}

// New does nothing, so a disk that is down is of no weight to it.
func TestNewOfADiskThatIsDown(t *testing.T) {
	d, v := begun(t, blob(7, 5))
	must(t, d.Arm(0))
	c, e := compact.New(d, v)
	is(t, "P11.1: New of a disk that is down", e, 0)
	_, e = compact.New(d, nil)
	is(t, "P11.1: New of a disk that is down, and no volume", e, api.ErrNil)
	must(t, d.Crash(disk.Picks{}))
	told(t, "P11.1: the first step behind the crash", c, false, 0)
}

func TestNoCompactor(t *testing.T) {
	var c *compact.Compactor
	for range 2 {
		told(t, "P11.1: Step of no compactor", c, false, api.ErrNil)
		left(t, "P11.1: of no compactor", c, 0)
	}
}

// One that New didn't make does nothing, and ends.
func TestACompactorOfNobody(t *testing.T) {
	c := &compact.Compactor{}
	left(t, "R1: of a compactor of nobody", c, 0)
	told(t, "R1: Step of a compactor of nobody", c, false, api.ErrNil)
	for range 2 {
		told(t, "R1: Step of a compactor of nobody", c, false, api.ErrDone)
		left(t, "R1: of a compactor of nobody", c, 0)
	}
}

// A volume that nobody made has no superblock that may be.
func TestAVolumeOfNobody(t *testing.T) {
	d := sure(disk.New(plenty))
	c := ahead(t, d, &vol.Vol{}, 0)
	told(t, "P11.1: Step of a volume of nobody", c, false, api.ErrArg)
	finished(t, "P11.1: behind it", d, c)
	is(t, "P11.2: Run of a volume of nobody", compact.Run(d, &vol.Vol{}), api.ErrArg)
	has(t, "P11.1: of a volume of nobody", d, map[string]string{})
}

// Nor has one of the last generation that may be: it stays as it is.
func TestTheLastGeneration(t *testing.T) {
	const gen = 1<<31 - 1
	for _, g := range []int{gen - 1, gen} {
		d, v := begun(t, blob(7, 5), blob(8, 1))
		must(t, v.Del(7, 107), d.Rename("v3.1", fmt.Sprint("v3.", g)), d.Remove("m3"), d.SyncNames())
		laid(t, d, "m3", manifest(v, g))
		file := super(3, g) + files(d)[fmt.Sprint("v3.", g)][16:]
		must(t, d.Remove(fmt.Sprint("v3.", g)))
		laid(t, d, fmt.Sprint("v3.", g), file)
		v = sure(vol.Open(d, 3, plenty))
		was, before := seen(v), files(d)
		if g < gen {
			is(t, "P11.2: Run to the last generation", compact.Run(d, v), 0)
			keeps(t, "P11.2: Run to the last generation", v, was)
			continue
		}
		// What is there under the next one's name is removed, as with any error; the
		// disk's own errors come ahead.
		laid(t, d, fmt.Sprint("v3.", g+1), "junk")
		must(t, d.Arm(0))
		told(t, "P11.1: Step of the last generation, and down", ahead(t, d, v, 0), false, api.ErrDown)
		must(t, d.Crash(disk.Picks{}))
		c := ahead(t, d, v, 0)
		told(t, "P11.1: Step of the last generation", c, false, api.ErrArg)
		finished(t, "P11.1: of the last generation", d, c)
		is(t, "P11.2: Run of the last generation", compact.Run(d, v), api.ErrArg)
		has(t, "P11.2: Run of the last generation", d, before)
		opens(t, "P11.2: Run of the last generation", d, was)
	}
}

// A compactor on a disk that isn't the volume's writes there, but there is
// nothing to be the volume's then.
func TestAnotherDisk(t *testing.T) {
	d, v := begun(t, blob(7, 5), blob(8, 1))
	before, was := files(d), seen(v)
	other := sure(disk.New(plenty))
	c := ahead(t, other, v, 3)
	want, _ := fresh(d, v)
	has(t, "P11.1: on another disk", other, map[string]string{"v3.2": want})
	told(t, "P11.1: on another disk, the last step", c, false, api.ErrNone)
	has(t, "P11.1: on another disk", other, map[string]string{})
	is(t, "P11.2: Run on another disk", compact.Run(other, v), api.ErrNone)
	has(t, "P11.1: the volume's disk", d, before)
	keeps(t, "P11.1: on another disk", v, was)
}

// The chapter's example.
func TestExample(t *testing.T) {
	d := sure(disk.New(1 << 20))
	v := sure(vol.Make(d, 1, 1<<20, 0))
	must(t, v.Put(api.Needle{Key: 7, Cookie: 9, Data: []byte("maize")}), v.Del(7, 9))
	is(t, "P11.2: Run", compact.Run(d, v), 0)
	if n := v.Info().Size; n != 48 {
		t.Errorf("P11.2: Put, Del, Run: the size is %d", n)
	}
	has(t, "P11.2: Put, Del, Run", d, map[string]string{
		"m1":   string(sure(heads.PutManifest(heads.Manifest{Volume: 1, Gen: 2}))),
		"v1.2": super(1, 2) + text(api.Needle{Key: 7, Cookie: 9, Gone: true}),
	})
}

// Run is all steps: behind any crash the volume is as it was, and of its least
// size.
func TestRun(t *testing.T) {
	placed(t, func(why, kind, old string) {
		why = "P11.2: Run " + why
		d, v := place(t, kind, old)
		for range 3 {
			was, want := seen(v), behind(d, v)
			_, l := fresh(d, v)
			least := compact.Least(v)
			is(t, why, compact.Run(d, v), 0)
			has(t, why, d, want)
			keeps(t, why, v, was)
			i := was.i
			i.Gen, i.Size = i.Gen+1, least
			if got := seen(v); !got.same(image{i, l}) || compact.Least(v) != least {
				t.Errorf("%s: %+v, Least %d; want %+v, %v, %d", why, got, compact.Least(v), i, l, least)
			}
			must(t, d.Crash(disk.Picks{}))
			has(t, why+", and a crash", d, want)
			if got := seen(opens(t, why, d, was)); !got.same(image{i, l}) {
				t.Errorf("%s: Open: %+v; want %+v, %v", why, got, i, l)
			}
		}
		must(t, v.Lay(blob(50, 50)), v.Lay(dead(51)))
		opens(t, why+", and two lays", d, seen(v))
	})
}

// A full index is copied as any other: 4096 steps, and two.
func TestRunOfAFullIndex(t *testing.T) {
	var l []api.Needle
	for i := range api.MaxItems {
		l = append(l, blob(uint64(i)*7919%65536, i%3))
	}
	d := sure(disk.New(1 << 20))
	v := made(t, d, l...)
	must(t, d.Crash(disk.Picks{}))
	was, want := seen(v), behind(d, v)
	c := ahead(t, d, v, 1)
	left(t, "P11.1: of a full index", c, api.MaxItems)
	ends(t, "P11.1: of a full index", c)
	has(t, "P11.1: of a full index", d, want)
	keeps(t, "P11.3: of a full index", v, was)
	if v.Info().Size != 16+32+1365*2*40+1365*32 {
		t.Errorf("P11.3: of a full index: size %d", v.Info().Size)
	}
}

func TestLeast(t *testing.T) {
	least := func(why string, v *vol.Vol, want int) {
		t.Helper()
		if got := compact.Least(v); got != want {
			t.Errorf("P11.2: Least %s: %d; want %d", why, got, want)
		}
	}
	least("of no volume", nil, 16)
	least("of a volume of nobody", &vol.Vol{}, 16)
	d, v := begun(t)
	least("of a new volume", v, 16)
	sizes := map[int]int{0: 32, 1: 40, 5: 40, 8: 40, 9: 48, 4095: 4128, 4096: 4128}
	want := 16
	for key, n := range slices.Sorted(maps.Keys(sizes)) {
		must(t, v.Put(blob(uint64(key), n)))
		want += sizes[n]
		least(fmt.Sprint("with a blob of ", n), v, want)
		if v.Info().Size != want {
			t.Errorf("P11.2: of blobs alone the size is %d; want %d", v.Info().Size, want)
		}
	}
	for key, n := range slices.Sorted(maps.Keys(sizes)) {
		before := seen(v)
		must(t, v.Del(uint64(key), uint32(key)+100))
		want += 32 - sizes[n]
		least(fmt.Sprint("with a blob gone of ", n), v, want)
		if v.Info().Size != before.i.Size+32 {
			t.Errorf("P11.2: size %d", v.Info().Size)
		}
	}
	must(t, v.Lay(dead(99)))
	least("with one that is gone, and never was", v, want+32)
	// It asks the volume alone, and changes nothing.
	before, was := files(d), seen(v)
	must(t, v.Set(9, true), d.Arm(0))
	least("sealed, of a disk that is down", v, want+32)
	must(t, d.Crash(disk.Picks{}))
	has(t, "P11.2: Least", d, with(before, "m3", manifest(v, 1)))
	keeps(t, "P11.2: Least", v, image{v.Info(), was.l})
	is(t, "P11.2: Run behind it", compact.Run(d, v), 0)
	least("behind Run", v, want+32)
	if v.Info().Size != want+32 {
		t.Errorf("P11.2: Run: size %d; want %d", v.Info().Size, want+32)
	}
}

// Two volumes on one disk have nothing to do with each other.
func TestTwoVolumes(t *testing.T) {
	d, v := begun(t, blob(7, 5), blob(8, 5), dead(7))
	o := sure(vol.Make(d, 33, 1<<20, 0))
	must(t, o.Put(blob(7, 6)), o.Put(blob(8, 6)), o.Del(8, 108), o.Put(blob(9, 1)))
	one, two := seen(v), seen(o)
	mine, _ := fresh(d, v)
	other, _ := fresh(d, o)
	a, b := ahead(t, d, v, 0), ahead(t, d, o, 0)
	for i := range 5 {
		if i < 4 {
			told(t, "P11.1: Step of one volume", a, i == 3, 0)
		}
		told(t, "P11.1: Step of another volume", b, i == 4, 0)
	}
	has(t, "P11.1: two volumes", d, map[string]string{"m3": manifest(v, 2), "v3.2": mine, "m33": manifest(o, 2), "v33.2": other})
	must(t, d.Crash(disk.Picks{}))
	keeps(t, "P11.3: two volumes", sure(vol.Open(d, 3, plenty)), one)
	keeps(t, "P11.3: two volumes", sure(vol.Open(d, 33, plenty)), two)
}
