package vol_test

import (
	"fmt"
	"maps"
	"math"
	"slices"
	"testing"

	"corncrib/api"
	"corncrib/check"
	"corncrib/disk"
	"corncrib/vol"
)

// Numbers at their ends, and whether they may be.
var (
	numbers = map[int]bool{
		math.MinInt: false, -1: false, 0: false, 1: true, 3: true, 65535: true, 65536: false, 65537: false, 1 << 32: false, math.MaxInt: false,
	}
	mosts = map[int]bool{
		math.MinInt: false, -1: false, 0: false, 15: false, 16: true, 17: true, 1 << 24: true, 1<<24 + 1: false, 1 << 32: false, math.MaxInt: false,
	}
	epochs = map[int]bool{
		math.MinInt: false, -1: false, 0: true, 1: true, math.MaxInt32: true, 1 << 31: false, 1 << 32: false, math.MaxInt: false,
	}
)

func TestMakeAndOpenOfNumbers(t *testing.T) {
	for number, isNumber := range numbers {
		for most, isMost := range mosts {
			for epoch, isEpoch := range epochs {
				why := fmt.Sprintf("P9.1: Make(%d, %d, %d)", number, most, epoch)
				v, e := vol.Make(nil, number, most, epoch)
				is(t, why+" of no disk", e, api.ErrNil)
				d := sure(disk.New(plenty))
				w, wrong := vol.Make(d, number, most, epoch)
				if v != nil || (w != nil) != (isNumber && isMost && isEpoch) {
					t.Errorf("%s: %v, %v", why, v, w)
				}
				if w == nil {
					is(t, why, wrong, api.ErrArg)
					hasFiles(t, why, d)
					continue
				}
				is(t, why, wrong, 0)
				state(t, why, w, vol.Info{Number: number, Gen: 1, Epoch: epoch})
				hasFiles(t, why, d, fmt.Sprint("m", number), manifest(number, 1, epoch, false), fmt.Sprintf("v%d.1", number), super(number, 1))
				opened, e := vol.Open(d, number, most)
				is(t, "P9.1: Open behind it", e, 0)
				state(t, "P9.1: Open behind it", opened, vol.Info{Number: number, Gen: 1, Epoch: epoch})
			}
			why := fmt.Sprintf("P9.1: Open(%d, %d)", number, most)
			v, e := vol.Open(nil, number, most)
			is(t, why+" of no disk", e, api.ErrNil)
			w, wrong := vol.Open(sure(disk.New(plenty)), number, most)
			if v != nil || w != nil {
				t.Errorf("%s: %v, %v", why, v, w)
			}
			code := api.ErrArg
			if isNumber && isMost {
				code = api.ErrNone
			}
			is(t, why+" of an empty disk", wrong, code)
		}
	}
}

// A disk that is down has names all the same: the errors are told in order.
func TestMakeOfWhatIsThere(t *testing.T) {
	for _, text := range []string{"", "x", manifest(3, 1, 0, false), manifest(3, 9, 7, true)} {
		d := sure(disk.New(plenty))
		laid(t, d, "m3", text)
		for range 2 {
			v, e := vol.Make(d, 3, 16, 0)
			if v != nil {
				t.Errorf("P9.1: Make tells %v beside %v", v, e)
			}
			is(t, "P9.1: Make of what is there", e, api.ErrThere)
			_, e = vol.Make(d, 3, 15, 0)
			is(t, "P9.1: Make of what is there, with a most that can't be", e, api.ErrArg)
			if !d.Down() {
				hasFiles(t, "P9.1: Make of what is there", d, "m3", text)
				must(t, d.Arm(0))
			}
		}
	}
	// Names of another volume, or other ones of this, are none of the manifest's.
	d := sure(disk.New(plenty))
	laid(t, d, "m33", "x", "m3.t", "y", "c3.1", "z", "m", "", "v3.2", "")
	v, e := vol.Make(d, 3, plenty, 0)
	is(t, "P9.1: Make beside other names", e, 0)
	state(t, "P9.1: Make beside other names", v, vol.Info{Number: 3, Gen: 1})
	hasFiles(t, "P9.1: Make beside other names", d,
		"c3.1", "z", "m", "", "m3", manifest(3, 1, 0, false), "m33", "x", "v3.1", super(3, 1), "v3.2", "")
}

// made3 are the steps of Make, as what there is behind each of the deeds.
func made3(shadow bool, epoch int) []map[string]string {
	s, m := super(3, 1), manifest(3, 1, epoch, false)
	list := []map[string]string{{}, {"v3.1": ""}, {"v3.1": s}, {"v3.1": s}}
	if shadow {
		for i := range list {
			list[i] = maps.Clone(list[i])
			list[i]["m3.t"] = "old"
		}
		list = append(list, map[string]string{"v3.1": s})
	}
	return append(list,
		map[string]string{"v3.1": s, "m3.t": ""}, map[string]string{"v3.1": s, "m3.t": m}, map[string]string{"v3.1": s, "m3.t": m},
		map[string]string{"v3.1": s, "m3": m}, map[string]string{"v3.1": s, "m3": m})
}

// behind asks what a disk that went down behind deeds had then: all that was
// appended is kept, and all names are.
func behind(t *testing.T, why string, d *disk.Disk, want map[string]string) {
	t.Helper()
	if !d.Down() {
		t.Errorf("%s: the disk isn't down", why)
	}
	must(t, d.Crash(disk.Picks{Names: 99, Files: slices.Repeat([]disk.Pick{{Keep: plenty}}, 99)}))
	if got := files(d); !maps.Equal(got, want) {
		t.Errorf("%s: files %q; want %q", why, got, want)
	}
}

// makes tells what Make does on a disk with so many deeds, and maybe a shadow.
func makes(t *testing.T, shadow bool, deeds int) (*disk.Disk, *vol.Vol, error) {
	t.Helper()
	d := sure(disk.New(plenty))
	if shadow {
		laid(t, d, "m3.t", "old")
	}
	must(t, d.Arm(deeds))
	v, e := vol.Make(d, 3, plenty, 5)
	return d, v, e
}

func TestMakeOfADiskThatEnds(t *testing.T) {
	for _, shadow := range []bool{false, true} {
		want := made3(shadow, 5)
		for deeds := range want {
			d, v, e := makes(t, shadow, deeds)
			why := fmt.Sprintf("P9.1: Make with %d deeds, a shadow: %v", deeds, shadow)
			if deeds == len(want)-1 {
				is(t, why, e, 0)
				behind(t, why, d, want[deeds])
				state(t, why, v, new3)
				continue
			}
			is(t, why, e, api.ErrDown)
			if v != nil {
				t.Errorf("%s: a volume beside the error", why)
			}
			behind(t, why, d, want[deeds])
		}
	}
}

// What Make needs lasts behind it, and what it synced was synced ahead of the
// deed that needs it.
func TestMakeLasts(t *testing.T) {
	for _, shadow := range []bool{false, true} {
		want := made3(shadow, 5)
		for deeds := range want {
			d, _, e := makes(t, shadow, deeds)
			must(t, d.Crash(disk.Picks{Names: 99}))
			if (e == nil) != (deeds == len(want)-1) {
				t.Errorf("P9.1: Make with %d deeds: %v", deeds, e)
			}
			got := files(d)
			if m, there := got["m3"]; there && m != manifest(3, 1, 5, false) || there && got["v3.1"] != super(3, 1) {
				t.Errorf("P9.1: Make with %d deeds, and a crash that takes what isn't synced: %q", deeds, got)
			}
		}
	}
}

func TestMakeOfAFullDisk(t *testing.T) {
	for capacity, code := range map[int]api.Code{0: api.ErrFull, 15: api.ErrFull, 16: api.ErrFull, 39: api.ErrFull, 40: 0} {
		v, e := vol.Make(sure(disk.New(capacity)), 3, plenty, 5)
		is(t, fmt.Sprintf("P9.1: Make on %d bytes", capacity), e, code)
		if (v != nil) != (code == 0) {
			t.Errorf("P9.1: Make on %d bytes: %v", capacity, v)
		}
	}
	for there, code := range map[int]api.Code{62: 0, 63: api.ErrFull, 64: api.ErrFull} {
		d := sure(disk.New(plenty))
		for i := range there {
			must(t, d.Create(fmt.Sprint("x", i)))
		}
		_, e := vol.Make(d, 3, plenty, 5)
		is(t, fmt.Sprintf("P9.1: Make beside %d files", there), e, code)
	}
	d := sure(disk.New(plenty))
	laid(t, d, "v3.1", super(3, 1))
	_, e := vol.Make(d, 3, plenty, 5)
	is(t, "P9.1: Make where the data file's name is", e, api.ErrThere)
	hasFiles(t, "P9.1: Make where the data file's name is", d, "v3.1", super(3, 1))
}

func TestSet(t *testing.T) {
	d, v := begun(t, plenty)
	must(t, v.Put(blob(7, 5)))
	want := new3
	for i, x := range []struct {
		epoch  int
		sealed bool
		code   api.Code
	}{
		{-1, true, api.ErrArg}, {math.MinInt, true, api.ErrArg}, {1 << 31, true, api.ErrArg}, {math.MaxInt, true, api.ErrArg},
		{4, true, api.ErrStale}, {0, true, api.ErrStale}, {5, true, 0}, {5, true, 0}, {4, false, api.ErrStale}, {5, false, 0}, {5, false, 0},
		{6, false, 0}, {9, true, 0}, {8, false, api.ErrStale}, {-1, false, api.ErrArg}, {100, true, 0}, {101, false, 0},
		{math.MaxInt32, true, 0}, {math.MaxInt32 - 1, false, api.ErrStale}, {1 << 31, false, api.ErrArg}, {math.MaxInt32, false, 0},
	} {
		is(t, fmt.Sprint("P9.3: Set ", i), v.Set(x.epoch, x.sealed), x.code)
		if x.code == 0 {
			want.Epoch, want.Sealed = x.epoch, x.sealed
		}
		why := fmt.Sprint("P9.3: behind Set ", i)
		state(t, why, v, want, blob(7, 5))
		hasFiles(t, why, d, "m3", manifest(3, 1, want.Epoch, want.Sealed), "v3.1", super(3, 1)+string(text(blob(7, 5))))
		if i%3 == 0 {
			must(t, d.Crash(disk.Picks{}))
			v = sure(vol.Open(d, 3, plenty))
			state(t, why+", and a crash", v, want, blob(7, 5))
		}
	}
}

func TestSetOfADiskThatEnds(t *testing.T) {
	s, old, m := super(3, 1), manifest(3, 1, 5, false), manifest(3, 1, 8, true)
	for _, shadow := range []bool{false, true} {
		want := []map[string]string{
			{"v3.1": s, "m3": old}, {"v3.1": s, "m3": old, "m3.t": ""}, {"v3.1": s, "m3": old, "m3.t": m}, {"v3.1": s, "m3": old, "m3.t": m},
			{"v3.1": s, "m3": m}, {"v3.1": s, "m3": m},
		}
		if shadow {
			want = append([]map[string]string{{"v3.1": s, "m3": old, "m3.t": "old"}}, want...)
		}
		for deeds := range want {
			d, v := begun(t, plenty)
			if shadow {
				laid(t, d, "m3.t", "old")
			}
			must(t, d.Arm(deeds))
			e := v.Set(8, true)
			why := fmt.Sprintf("P9.3: Set with %d deeds, a shadow: %v", deeds, shadow)
			if deeds == len(want)-1 {
				is(t, why, e, 0)
				state(t, why, v, vol.Info{Number: 3, Gen: 1, Epoch: 8, Sealed: true})
			} else {
				is(t, why, e, api.ErrDown)
				state(t, why, v, new3)
				is(t, why+", and an elder epoch", v.Set(4, true), api.ErrStale)
			}
			behind(t, why, d, want[deeds])
		}
	}
	d, v := begun(t, plenty)
	fill(t, d, plenty-23)
	is(t, "P9.3: Set on a full disk", v.Set(8, true), api.ErrFull)
	state(t, "P9.3: Set on a full disk", v, new3)
	must(t, d.Cut("x", 0))
	is(t, "P9.3: Set behind one on a full disk", v.Set(8, true), 0)
	must(t, d.Remove("x"))
	hasFiles(t, "P9.3: Set behind one on a full disk", d, "v3.1", s, "m3", m)
}

// next tells a volume whose next generation's file is there, and the needles
// that are in it.
func next(t *testing.T, pairs ...string) (*disk.Disk, *vol.Vol, []api.Needle, int) {
	t.Helper()
	d, v := begun(t, plenty)
	must(t, v.Put(blob(7, 5)), v.Put(blob(8, 5)), v.Del(7, 107), v.Set(6, true))
	l := []api.Needle{blob(8, 5), dead(7)}
	file := super(3, 2) + string(text(l...))
	laid(t, d, append([]string{"v3.2", file}, pairs...)...)
	return d, v, l, len(file)
}

func TestCommit(t *testing.T) {
	for _, with := range [][]string{{}, {"c3.1", "checkpoint"}, {"m3.t", "old"}, {"c3.1", "", "m3.t", ""}} {
		d, v, l, size := next(t, append(with, "v3.3", "x", "c3.2", "y", "c33.1", "z", "c3.0", "")...)
		is(t, "P9.3: Commit", v.Commit(positions(l...), size), 0)
		want := vol.Info{Number: 3, Gen: 2, Epoch: 6, Sealed: true}
		state(t, "P9.3: behind a Commit", v, want, l...)
		gets(t, "P9.3: behind a Commit", v, blob(8, 5))
		refuses(t, "P9.3: behind a Commit", v, 7, 107, api.ErrGone)
		for range 2 {
			hasFiles(t, "P9.3: behind a Commit", d, "m3", manifest(3, 2, 6, true), "v3.2", super(3, 2)+string(text(l...)),
				"v3.3", "x", "c3.2", "y", "c33.1", "z", "c3.0", "")
			must(t, d.Crash(disk.Picks{}))
		}
		must(t, v.Set(6, false), v.Put(blob(9, 100)))
		want.Sealed = false
		state(t, "P9.3: a put behind a Commit", v, want, append(l, blob(9, 100))...)
		gets(t, "P9.3: a put behind a Commit", v, blob(8, 5), blob(9, 100))
		is(t, "P9.3: Commit of a file that isn't one", v.Commit(nil, 1), 0)
		if i := v.Info(); i != (vol.Info{Number: 3, Gen: 3, Epoch: 6, Size: 1}) {
			t.Errorf("P9.3: behind a second Commit: %+v", i)
		}
		hasFiles(t, "P9.3: behind a second Commit", d, "m3", manifest(3, 3, 6, false), "v3.3", "x", "c33.1", "z", "c3.0", "")
	}
}

func TestCommitRefuses(t *testing.T) {
	d, v, l, size := next(t)
	before := files(d)
	want := vol.Info{Number: 3, Gen: 1, Epoch: 6, Sealed: true}
	for _, n := range []int{size - 1, size + 1, 0, 16, -1, math.MinInt, math.MaxInt, size + 1<<32} {
		is(t, fmt.Sprintf("P9.3: Commit of %d bytes", n), v.Commit(positions(l...), n), api.ErrArg)
	}
	must(t, d.Rename("v3.2", "v3.3"))
	is(t, "P9.3: Commit without the next file", v.Commit(positions(l...), size), api.ErrNone)
	is(t, "P9.3: Commit without the next file, of another size", v.Commit(positions(l...), -1), api.ErrNone)
	must(t, d.Rename("v3.3", "v3.2"), d.Arm(0))
	is(t, "P9.3: Commit of a disk that is down", v.Commit(positions(l...), size), api.ErrDown)
	is(t, "P9.3: Commit of a disk that is down, of another size", v.Commit(positions(l...), -1), api.ErrDown)
	must(t, d.Crash(disk.Picks{Names: 9}))
	state(t, "P9.3: behind refused Commits", v, want, blob(7, 5), blob(8, 5), dead(7))
	if got := files(d); !maps.Equal(got, before) {
		t.Errorf("P9.3: behind refused Commits: %q; want %q", got, before)
	}
}

// All positions that have room are the volume's, whatever they are.
func TestCommitOfAnyPositions(t *testing.T) {
	var l []api.Pos
	for i := range 4100 {
		l = append(l, api.Pos{Key: uint64(5000 - i), Off: i})
	}
	d, v := begun(t, plenty)
	laid(t, d, "v3.2", "")
	is(t, "P9.3: Commit of 4100 keys", v.Commit(l, 0), 0)
	got := v.Snapshot()
	want := slices.Clone(l[:4096])
	slices.Reverse(want)
	if got.Upto != 0 || !slices.Equal(got.L, want) {
		t.Errorf("P9.3: Commit of 4100 keys: %d keys, upto %d", len(got.L), got.Upto)
	}
	laid(t, d, "v3.3", "x")
	// Of two of a key the later one holds, in whatever order the keys are.
	is(t, "P9.3: Commit of a key twice", v.Commit([]api.Pos{{Key: 9, Off: 1}, {Key: 3, Off: 2}, {Key: 9, Off: 3, Gone: true}}, 1), 0)
	if got := v.Keys(0, 9); !slices.Equal(got, []api.Pos{{Key: 3, Off: 2}, {Key: 9, Off: 3, Gone: true}}) {
		t.Errorf("P9.3: Commit of a key twice: %v", got)
	}
	laid(t, d, "v3.4", "xy")
	is(t, "P9.3: Commit of no positions", v.Commit(nil, 2), 0)
	if i := v.Info(); i != (vol.Info{Number: 3, Gen: 4, Epoch: 5, Size: 2}) {
		t.Errorf("P9.3: Commit of no positions: %+v", i)
	}
}

func TestCommitOfTheLastGeneration(t *testing.T) {
	d := sure(disk.New(plenty))
	const last = math.MaxInt32
	name, behind := fmt.Sprintf("v3.%d", last), fmt.Sprintf("v3.%d", last+1)
	laid(t, d, "m3", manifest(3, last-1, 0, false), fmt.Sprintf("v3.%d", last-1), super(3, last-1))
	v := sure(vol.Open(d, 3, plenty))
	laid(t, d, name, super(3, last))
	is(t, "P9.3: Commit of the last generation", v.Commit(nil, 16), 0)
	is(t, "P9.3: Commit behind the last generation", v.Commit(nil, 16), api.ErrNone)
	laid(t, d, behind, super(3, 1))
	is(t, "P9.3: Commit behind the last generation, of a file", v.Commit(nil, 16), api.ErrArg)
	state(t, "P9.3: of the last generation", v, vol.Info{Number: 3, Gen: last})
	hasFiles(t, "P9.3: of the last generation", d, "m3", manifest(3, last, 0, false), name, super(3, last), behind, super(3, 1))
}

func TestCommitOfADiskThatEnds(t *testing.T) {
	for _, point := range []bool{false, true} {
		var pairs []string
		begin := map[string]string{}
		if point {
			pairs = []string{"c3.1", "checkpoint"}
			begin["c3.1"] = "checkpoint"
		}
		old, m := manifest(3, 1, 6, true), manifest(3, 2, 6, true)
		begin["v3.1"] = super(3, 1) + string(text(blob(7, 5), blob(8, 5), dead(7)))
		begin["v3.2"] = super(3, 2) + string(text(blob(8, 5), dead(7)))
		begin["m3"] = old
		want := []map[string]string{begin}
		then := func(how func(m map[string]string)) {
			m := maps.Clone(want[len(want)-1])
			how(m)
			want = append(want, m)
		}
		nothing := func(map[string]string) {}
		then(func(l map[string]string) { l["m3.t"] = "" })
		then(func(l map[string]string) { l["m3.t"] = m })
		then(nothing)
		then(func(l map[string]string) { l["m3"] = m; delete(l, "m3.t") })
		then(nothing)
		laid := len(want) - 1
		then(func(l map[string]string) { delete(l, "v3.1") })
		if point {
			then(func(l map[string]string) { delete(l, "c3.1") })
		}
		then(nothing)
		for deeds := range want {
			d, v, l, size := next(t, pairs...)
			must(t, d.Arm(deeds))
			e := v.Commit(positions(l...), size)
			why := fmt.Sprintf("P9.3: Commit with %d deeds, a checkpoint: %v", deeds, point)
			code := api.ErrDown
			if deeds == len(want)-1 {
				code = 0
			}
			is(t, why, e, code)
			if deeds < laid {
				state(t, why, v, vol.Info{Number: 3, Gen: 1, Epoch: 6, Sealed: true}, blob(7, 5), blob(8, 5), dead(7))
			} else {
				// It is of the next generation, though the elder's files are there.
				state(t, why, v, vol.Info{Number: 3, Gen: 2, Epoch: 6, Sealed: true}, l...)
			}
			behind(t, why, d, want[deeds])
		}
	}
}

func TestCommitWithoutTheElderFile(t *testing.T) {
	d, v, l, size := next(t, "c3.1", "checkpoint")
	must(t, d.Remove("v3.1"))
	is(t, "P9.3: Commit without the elder file", v.Commit(positions(l...), size), api.ErrNone)
	state(t, "P9.3: Commit without the elder file", v, vol.Info{Number: 3, Gen: 2, Epoch: 6, Sealed: true}, l...)
	d, v, l, size = next(t)
	fill(t, d, plenty-23)
	is(t, "P9.3: Commit on a full disk", v.Commit(positions(l...), size), api.ErrFull)
	state(t, "P9.3: Commit on a full disk", v, vol.Info{Number: 3, Gen: 1, Epoch: 6, Sealed: true}, blob(7, 5), blob(8, 5), dead(7))
}

// A checkpoint of the elder generation is none of the next one's.
func TestSnapshotBehindACommit(t *testing.T) {
	_, v, l, size := next(t)
	before := v.Snapshot()
	must(t, v.Commit(positions(l...), size))
	if before.Gen != 1 || len(before.L) != 2 || before.Upto != 16+40+40+32 {
		t.Errorf("P9.3: Snapshot ahead of a Commit: %+v", before)
	}
	if got := v.Snapshot(); got.Gen != 2 || got.Upto != size || check.Right(got) != nil {
		t.Errorf("P9.3: Snapshot behind a Commit: %+v", got)
	}
}
