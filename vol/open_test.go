package vol_test

import (
	"fmt"
	"maps"
	"slices"
	"strings"
	"testing"

	"corncrib/api"
	"corncrib/check"
	"corncrib/disk"
	"corncrib/sample"
	"corncrib/vol"
)

// on tells a disk with files that last.
func on(t *testing.T, pairs ...string) *disk.Disk {
	t.Helper()
	d := sure(disk.New(plenty))
	laid(t, d, pairs...)
	return d
}

// opens tells volume 3 of a disk, which can be opened.
func opens(t *testing.T, why string, d *disk.Disk) *vol.Vol {
	t.Helper()
	v, e := vol.Open(d, 3, plenty)
	if v == nil || e != nil {
		t.Fatalf("%s: Open: %v, %v", why, v, e)
	}
	return v
}

// stays asks that Open tells no volume, and that the disk stays as it is.
func stays(t *testing.T, why string, d *disk.Disk) error {
	t.Helper()
	before := files(d)
	v, e := vol.Open(d, 3, plenty)
	if v != nil || e == nil {
		t.Errorf("%s: Open: %v, %v", why, v, e)
	}
	if got := files(d); !maps.Equal(got, before) {
		t.Errorf("%s: files %q; want %q", why, got, before)
	}
	return e
}

func TestOpenWithoutAManifest(t *testing.T) {
	for _, pairs := range [][]string{
		{}, {"m33", manifest(33, 1, 0, false), "v33.1", super(33, 1)}, {"v3.1", super(3, 1), "m3.t", manifest(3, 1, 0, false), "c3.1", "", "v3.2", ""},
	} {
		d := on(t, pairs...)
		is(t, "P9.1: Open without a manifest", stays(t, "P9.1: Open without a manifest", d), api.ErrNone)
		must(t, d.Arm(0))
		_, e := vol.Open(d, 3, plenty)
		is(t, "P9.1: Open without a manifest of a disk that is down", e, api.ErrDown)
	}
}

func TestOpenOfAManifestThatCannotBe(t *testing.T) {
	m := manifest(3, 1, 5, true)
	why := "P9.1: Open of a manifest that can't be read"
	for text, code := range map[string]api.Code{
		"": api.ErrShort, m[:23]: api.ErrShort, m + "x": api.ErrForm, m + m: api.ErrForm, super(3, 1): api.ErrShort,
		manifest(2, 1, 5, true): api.ErrForm, manifest(33, 1, 5, true): api.ErrForm, manifest(65535, 1, 0, false): api.ErrForm,
	} {
		for _, pairs := range [][]string{{"m3", text}, {"m3", text, "v3.1", super(3, 1), "m3.t", m, "v3.2", ""}} {
			at(t, why, stays(t, why, on(t, pairs...)), "m3", 0, code)
		}
	}
	for bit := range 8 * len(m) {
		code := api.ErrSum
		if bit < 32 {
			code = api.ErrForm
		}
		d := on(t, "m3", string(sample.Turned([]byte(m), bit)), "v3.1", super(3, 1))
		at(t, why, stays(t, why, d), "m3", 0, code)
	}
}

func TestOpenOfADataFileThatCannotBe(t *testing.T) {
	for _, gen := range []int{1, 7, 1<<31 - 1} {
		m, name, s := manifest(3, gen, 5, true), fmt.Sprint("v3.", gen), super(3, gen)
		why := "P9.1: Open without a data file"
		at(t, why, stays(t, why, on(t, "m3", m, "v3.2", super(3, 2), "c3.1", "", "m3.t", "")), name, 0, api.ErrNone)
		why = "P9.1: Open of a superblock that isn't right"
		for text, code := range map[string]api.Code{
			"": api.ErrShort, s[:15]: api.ErrShort, m: api.ErrForm, "x" + s: api.ErrForm,
			super(2, gen): api.ErrForm, super(33, gen): api.ErrForm, super(3, 8): api.ErrForm, super(3, 2) + string(text(blob(7, 5))): api.ErrForm,
		} {
			at(t, why, stays(t, why, on(t, "m3", m, name, text, "c3.3", "", "m3.t", "")), name, 0, code)
		}
		for bit := range 8 * 16 {
			code := api.ErrSum
			if bit < 32 {
				code = api.ErrForm
			}
			turned := sample.Turned([]byte(s+string(text(blob(7, 5)))), bit)
			at(t, why, stays(t, why, on(t, "m3", m, name, string(turned))), name, 0, code)
		}
	}
}

func TestOpen(t *testing.T) {
	l := []api.Needle{blob(7, 5), blob(2, 4096), dead(7), blob(1, 0), {Key: 2, Cookie: 5, Data: []byte("another")}, dead(9), {Key: 9, Data: []byte("there again")}}
	for n := range len(l) + 1 {
		for _, sealed := range []bool{false, true} {
			d := on(t, "v3.12", super(3, 12)+string(text(l[:n]...)), "m3", manifest(3, 12, 8, sealed), "m33", "", "x", "y")
			before := files(d)
			v := opens(t, "P9.1", d)
			state(t, "P9.1: Open", v, vol.Info{Number: 3, Gen: 12, Epoch: 8, Sealed: sealed}, l[:n]...)
			if got := files(d); !maps.Equal(got, before) {
				t.Errorf("P9.1: Open changes %q to %q", before, got)
			}
			// Nothing was to be cut, or removed: Open does no deed.
			must(t, d.Arm(1))
			opens(t, "P9.1: Open of a disk that is armed", d)
			is(t, "P9.1: a deed behind Open", d.Sync("x"), 0)
			if e := fmt.Sprint(vol.Open(d, 3, plenty)); e != fmt.Sprint((*vol.Vol)(nil), api.ErrDown) {
				t.Errorf("P9.1: Open of a disk that is down: %s", e)
			}
		}
	}
	// The newest needle of each key is got, as it stands in the file.
	d := on(t, "v3.1", super(3, 1)+string(text(l...)), "m3", manifest(3, 1, 8, false))
	v := opens(t, "P9.1", d)
	gets(t, "P9.1: Open", v, l[3], l[4], l[6])
	refuses(t, "P9.1: Open", v, 7, 107, api.ErrGone)
	is(t, "P9.1: Put behind Open", v.Put(blob(8, 5)), 0)
	state(t, "P9.1: Put behind Open", v, vol.Info{Number: 3, Gen: 1, Epoch: 8}, append(l, blob(8, 5))...)
}

// The most that Open is told holds for what is written behind it alone.
func TestOpenWithAMost(t *testing.T) {
	d := on(t, "v3.1", super(3, 1)+string(text(blob(7, 5))), "m3", manifest(3, 1, 5, false))
	for most, code := range map[int]api.Code{16: api.ErrFull, 56: api.ErrFull, 87: api.ErrFull, 88: 0} {
		v, e := vol.Open(d, 3, most)
		must(t, e)
		state(t, "P9.1: Open with a most", v, new3, blob(7, 5))
		if code != 0 {
			is(t, fmt.Sprint("P9.2: Put with a most of ", most), v.Put(blob(8, 0)), code)
			is(t, fmt.Sprint("P9.2: Del with a most of ", most), v.Del(7, 107), code)
		}
	}
	v := sure(vol.Open(d, 3, 88))
	is(t, "P9.2: Put with a most of 88", v.Put(blob(8, 0)), 0)
	is(t, "P9.2: Del with a most of 88", v.Del(7, 107), api.ErrFull)
}

// A file may have more keys than an index: those that come first have room.
func TestOpenOfMoreKeysThanTheIndexHas(t *testing.T) {
	var l []api.Needle
	for i := range 4100 {
		l = append(l, blob(uint64(9000-i), 0))
	}
	l = append(l, dead(9000), blob(1, 1))
	d := on(t, "v3.1", super(3, 1)+string(text(l...)), "m3", manifest(3, 1, 5, false))
	v := opens(t, "P9.1", d)
	if i := v.Info(); i.Live != 4095 || i.Gone != 1 || i.Size != 16+32*4101+40 {
		t.Errorf("P9.1: Open of 4101 keys: %+v", i)
	}
	gets(t, "P9.1: Open of 4101 keys", v, l[1], l[4095])
	refuses(t, "P9.1: Open of 4101 keys", v, 9000, 9100, api.ErrGone)
	refuses(t, "P9.1: Open of 4101 keys", v, 9000-4096, 9100-4096, api.ErrNone)
	is(t, "P9.2: Put behind it", v.Put(blob(2, 2)), api.ErrFull)
}

// point tells a checkpoint's bytes.
func point(volume, gen, upto int, l ...api.Pos) string {
	return string(sure(check.Put(check.Check{Volume: volume, Gen: gen, Upto: upto, L: l})))
}

func TestOpenWithACheckpoint(t *testing.T) {
	l := []api.Needle{blob(7, 5), blob(8, 5), dead(7)}
	file := super(3, 2) + string(text(l...))
	size := len(file)
	all := positions(l...)
	// What no scan would find: so it is seen whether the checkpoint is taken.
	mark := api.Pos{Key: 99, Off: 16, Len: 5, Cookie: 1}
	right := point(3, 2, size, all[0], all[1], mark)
	for why, x := range map[string]struct {
		point string
		want  []api.Pos
	}{
		"right, of all":                    {right, []api.Pos{all[0], all[1], mark}},
		"right, of none":                   {point(3, 2, size), nil},
		"right, upto 16":                   {point(3, 2, 16, mark), []api.Pos{all[0], all[1], mark}},
		"right, upto the second":           {point(3, 2, 56, mark), []api.Pos{all[0], all[1], mark}},
		"right, upto the third":            {point(3, 2, 96, mark), []api.Pos{{Key: 7, Off: 96, Cookie: 107, Gone: true}, mark}},
		"of a key that the scan finds":     {point(3, 2, 16, api.Pos{Key: 7, Off: 1}, mark), []api.Pos{all[0], all[1], mark}},
		"of a key that stands ahead of it": {point(3, 2, 96, api.Pos{Key: 8, Off: 1}, mark), []api.Pos{all[0], {Key: 8, Off: 1}, mark}},
		"upto 15":                          {point(3, 2, 15, mark), all},
		"upto 0":                           {point(3, 2, 0, mark), all},
		"upto one more than the size":      {point(3, 2, size+1, mark), all},
		"upto the greatest":                {point(3, 2, 1<<24, mark), all},
		"of another volume":                {point(33, 2, size, mark), all},
		"of the volume ahead":              {point(2, 2, 16, mark), all},
		"of another generation":            {point(3, 1, size, mark), all},
		"of the next generation":           {point(3, 3, 16, mark), all},
		"of no bytes":                      {"", all},
		"of no checkpoint's":               {file, all},
		"cut short":                        {right[:len(right)-1], all},
		"too long":                         {right + "x", all},
		"that isn't there":                 {"-", all},
		"of another volume, upto the mid":  {point(4, 2, 57, mark), all},
		"of another generation, upto 15":   {point(3, 4, 15, mark), all},
		"of another volume and generation": {point(5, 5, size, mark), all},
		"whose sum isn't right":            {string(sample.Turned([]byte(right), 8*50)), all},
		"whose number ahead isn't right":   {string(sample.Turned([]byte(right), 0)), all},
		"whose sum itself isn't right":     {string(sample.Turned([]byte(right), 8*len(right)-1)), all},
		"of a manifest's bytes":            {manifest(3, 2, 5, false), all},
	} {
		pairs := []string{"v3.2", file, "m3", manifest(3, 2, 5, false)}
		if x.point != "-" {
			pairs = append(pairs, "c3.2", x.point)
		}
		d := on(t, pairs...)
		v := opens(t, "P9.1: a checkpoint "+why, d)
		c := v.Snapshot()
		if c.Volume != 3 || c.Gen != 2 || c.Upto != size || !slices.Equal(c.L, x.want) {
			t.Errorf("P9.1: Open with a checkpoint %s: %+v; want %+v", why, c, x.want)
		}
		// Whatever it is, it is the checkpoint file of the generation, and stays.
		hasFiles(t, "P9.1: a checkpoint "+why, d, pairs...)
	}
	for bit := range 8 * len(right) {
		d := on(t, "v3.2", file, "m3", manifest(3, 2, 5, false), "c3.2", string(sample.Turned([]byte(right), bit)))
		if got := opens(t, "P9.1: a spoilt checkpoint", d).Keys(0, 9); !slices.Equal(got, all) {
			t.Fatalf("P9.1: Open with a checkpoint whose bit %d is turned: %v", bit, got)
		}
	}
}

// A scan from a place where no needle stands ends there: the file is cut there.
func TestOpenWithACheckpointUptoNoNeedle(t *testing.T) {
	l := []api.Needle{blob(7, 5), blob(8, 5)}
	d := on(t, "v3.2", super(3, 2)+string(text(l...)), "m3", manifest(3, 2, 5, false), "c3.2", point(3, 2, 57))
	v := opens(t, "P9.1", d)
	if i := v.Info(); i != (vol.Info{Number: 3, Gen: 2, Epoch: 5, Size: 57}) || sure(d.Size("v3.2")) != 57 {
		t.Errorf("P9.1: Open with an Upto in a needle: %+v", i)
	}
}

// A checkpoint's own file is of its volume's generation: one of another
// generation is removed, and none is read.
func TestOpenReadsNoOtherCheckpoint(t *testing.T) {
	l := []api.Needle{blob(7, 5)}
	mark := api.Pos{Key: 99}
	d := on(t, "v3.2", super(3, 2)+string(text(l...)), "m3", manifest(3, 2, 5, false),
		"c3.1", point(3, 2, 16, mark), "c3.0", point(3, 2, 16, mark), "c3.3", point(3, 2, 16, mark), "c2.2", point(3, 2, 16, mark))
	state(t, "P9.1: Open beside other checkpoints", opens(t, "P9.1", d), vol.Info{Number: 3, Gen: 2, Epoch: 5}, l...)
	hasFiles(t, "P9.1: Open beside other checkpoints", d, "v3.2", super(3, 2)+string(text(l...)), "m3", manifest(3, 2, 5, false), "c2.2", point(3, 2, 16, mark))
}

func TestOpenOfATornFile(t *testing.T) {
	l := []api.Needle{blob(7, 5), blob(8, 0), dead(7)}
	ends := []int{16, 56, 88, 120}
	file := super(3, 1) + string(text(l...))
	for n := 16; n <= len(file); n++ {
		for _, with := range []string{"", "\x00", string(make([]byte, 100)), "LEEN", "CRIB"} {
			d := on(t, "v3.1", file[:n]+with, "m3", manifest(3, 1, 5, false))
			whole := 0
			for whole+1 < len(ends) && ends[whole+1] <= n {
				whole++
			}
			if ends[whole] < n && strings.Trim(with, "\x00") == "" && strings.Trim(file[n:ends[whole+1]], "\x00") == "" && len(with) >= ends[whole+1]-n {
				continue // what was laid behind is what was cut off
			}
			v := opens(t, "P9.1", d)
			why := fmt.Sprintf("P9.1: Open of %d bytes and %q", n, with)
			state(t, why, v, new3, l[:whole]...)
			hasFiles(t, why, d, "v3.1", file[:ends[whole]], "m3", manifest(3, 1, 5, false))
			is(t, why+": Put", v.Put(blob(9, 9)), 0)
			must(t, d.Crash(disk.Picks{}))
			state(t, why+", and a put", opens(t, why, d), new3, append(slices.Clone(l[:whole]), blob(9, 9))...)
		}
	}
	for bit := 8 * 16; bit < 8*len(file); bit++ {
		d := on(t, "v3.1", string(sample.Turned([]byte(file), bit)), "m3", manifest(3, 1, 5, false))
		whole := 0
		for ends[whole+1] <= bit/8 {
			whole++
		}
		state(t, "P9.1: Open of a file with a bit turned", opens(t, "P9.1", d), new3, l[:whole]...)
		hasFiles(t, "P9.1: Open of a file with a bit turned", d, "v3.1", file[:ends[whole]], "m3", manifest(3, 1, 5, false))
	}
}

// Behind a checkpoint what is torn is cut as well; ahead of it nobody looks.
func TestOpenOfATornFileWithACheckpoint(t *testing.T) {
	l := []api.Needle{blob(7, 5), blob(8, 5), blob(9, 5)}
	all := positions(l...)
	file := []byte(super(3, 1) + string(text(l...)))
	pairs := func(file []byte) []string {
		return []string{"v3.1", string(file), "m3", manifest(3, 1, 5, false), "c3.1", point(3, 1, 56, all[0])}
	}
	d := on(t, pairs(sample.Turned(file, 8*100))...)
	state(t, "P9.1: Open of a file torn behind the checkpoint", opens(t, "P9.1", d), new3, l[:2]...)
	hasFiles(t, "P9.1: Open of a file torn behind the checkpoint", d, pairs(file[:96])...)
	file = sample.Turned(file, 8*20)
	d = on(t, pairs(file)...)
	v := opens(t, "P9.1", d)
	state(t, "P9.1: Open of a file spoilt ahead of the checkpoint", v, new3, l...)
	hasFiles(t, "P9.1: Open of a file spoilt ahead of the checkpoint", d, pairs(file)...)
	gets(t, "P9.1: Open of a file spoilt ahead of the checkpoint", v, l[1], l[2])
	_, e := v.Get(7, 107)
	at(t, "P9.3: Get of what is spoilt ahead of the checkpoint", e, "v3.1", 16, api.ErrForm)
}

// removable are files of volume 3 that aren't those of its generation 12, in
// the order of names.
var removable = []string{
	"c3.0", "c3.1", "c3.11", "c3.120", "c3.13", "c3.2", "c3.2147483647", "c3.3", "m3.t", "v3.0", "v3.1", "v3.11", "v3.13", "v3.2", "v3.2147483647",
}

// left are files that aren't removed: other volumes', and such as no volume has.
var left = []string{
	"c", "c.12", "c1.1", "c12.3", "c2.12", "c3", "c3.", "c3.012", "c3.1.1", "c3.12", "c3.12.", "c3.a", "c3.t", "c33.12", "m", "m.t", "m3", "m3.", "m3.1", "m3.12", "m3.t.t", "m3.tt",
	"m33", "m33.t", "t3.1", "v", "v.3", "v03.1", "v1.3", "v2.1", "v3", "v3.", "v3.00", "v3.01", "v3.1a", "v3.12", "v3.99999999999999999999", "v3.m", "v3.t", "v30.1", "v33.1", "vv3.1", "x3.1",
}

func TestOpenRemoves(t *testing.T) {
	var pairs []string
	for _, name := range left {
		has := name
		switch name {
		case "m3":
			has = manifest(3, 12, 5, true)
		case "v3.12":
			has = super(3, 12) + string(text(blob(7, 5)))
		}
		pairs = append(pairs, name, has)
	}
	want := vol.Info{Number: 3, Gen: 12, Epoch: 5, Sealed: true}
	for n := range len(removable) + 1 {
		d := on(t, pairs...)
		for _, name := range removable[:n] {
			must(t, d.Create(name), d.Append(name, []byte(super(3, 1))))
		}
		must(t, d.SyncNames())
		state(t, "P9.1: Open", opens(t, "P9.1", d), want, blob(7, 5))
		hasFiles(t, fmt.Sprintf("P9.1: Open removes %d files", n), d, pairs...)
		// The names were synced.
		must(t, d.Crash(disk.Picks{}))
		hasFiles(t, fmt.Sprintf("P9.1: Open removes %d files, and a crash", n), d, pairs...)
	}
}

// With fewer deeds than it needs Open tells the disk's error; it removes in the
// order of names, behind the cut, and syncs names if there was a name.
func TestOpenOfADiskThatEnds(t *testing.T) {
	for _, torn := range []bool{false, true} {
		for n := range len(removable) + 1 {
			for deeds := range n + 4 {
				file := super(3, 12) + string(text(blob(7, 5)))
				tail := map[bool]string{true: "torn"}[torn]
				d := on(t, "v3.12", file+tail, "m3", manifest(3, 12, 5, false), "x", "")
				for _, name := range removable[:n] {
					must(t, d.Create(name))
				}
				must(t, d.SyncNames(), d.Arm(deeds))
				need := n
				if torn {
					need++
				}
				if n > 0 {
					need++
				}
				v, e := vol.Open(d, 3, plenty)
				why := fmt.Sprintf("P9.1: Open with %d deeds of %d, torn: %v", deeds, need, torn)
				if deeds == 0 || deeds < need {
					is(t, why, e, api.ErrDown)
				} else {
					is(t, why, e, 0)
				}
				if (v == nil) == (e == nil) || d.Down() != (deeds <= need) {
					t.Errorf("%s: %v, %v; down: %v", why, v, e, d.Down())
				}
				must(t, d.Crash(disk.Picks{Names: 99}))
				done := min(deeds, need)
				want := map[string]string{"v3.12": file + tail, "m3": manifest(3, 12, 5, false), "x": ""}
				if torn && done > 0 {
					want["v3.12"] = file
					done--
				}
				for _, name := range removable[min(done, n):n] {
					want[name] = ""
				}
				if got := files(d); !maps.Equal(got, want) {
					t.Errorf("%s: files %q; want %q", why, got, want)
				}
			}
		}
	}
}

// What Open told is the same each time.
func TestOpenTwice(t *testing.T) {
	d, v := begun(t, plenty)
	must(t, v.Put(blob(7, 5)), v.Put(blob(8, 5)), v.Del(7, 107), v.Set(9, false))
	for range 3 {
		v := opens(t, "P9.4", d)
		state(t, "P9.4: Open of what wasn't closed", v, vol.Info{Number: 3, Gen: 1, Epoch: 9}, blob(7, 5), blob(8, 5), dead(7))
	}
}
