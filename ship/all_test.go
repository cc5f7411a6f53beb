package ship_test

import (
	"fmt"
	"maps"
	"slices"
	"testing"

	"corncrib/api"
	"corncrib/compact"
	"corncrib/disk"
	"corncrib/ship"
	"corncrib/vol"
)

// alls asks what All tells, if that is a code as it is.
func alls(t *testing.T, why string, from, to *vol.Vol, n int, code api.Code) {
	t.Helper()
	why = "P13.2: All " + why
	got, e := ship.All(from, to)
	bare(t, why, e, code)
	if got != n {
		t.Errorf("%s: %d were laid; want %d", why, got, n)
	}
}

// behind asks which keys Behind tells.
func behind(t *testing.T, why string, a, b *vol.Vol, want ...uint64) {
	t.Helper()
	got, e := ship.Behind(a, b)
	is(t, why, e, 0)
	if !slices.Equal(got, want) {
		t.Errorf("%s: Behind %v; want %v", why, got, want)
	}
}

// twice asks that a second All does what the first one did: nothing is left to
// do.
func twice(t *testing.T, why string, d *disk.Disk, from *vol.Vol, e *disk.Disk, to *vol.Vol, n int) {
	t.Helper()
	was, also := seen(d, from), seen(e, to)
	idle(t, "P13.3: All twice "+why, func() {
		for range 2 {
			alls(t, why+", P13.3: twice", from, to, n, 0)
		}
	}, d, e)
	was.still(t, "P13.3: All twice "+why, d, from)
	also.still(t, "P13.3: All twice "+why, e, to)
}

func TestAllAndBehindOfNoVolume(t *testing.T) {
	d, v := begun(t, blob(7, 5))
	was := seen(d, v)
	for _, x := range [][2]*vol.Vol{{nil, nil}, {nil, v}, {v, nil}, {nil, &vol.Vol{}}, {&vol.Vol{}, nil}} {
		alls(t, "of no volume", x[0], x[1], 0, api.ErrNil)
		l, e := ship.Behind(x[0], x[1])
		bare(t, "P13.2: Behind of no volume", e, api.ErrNil)
		if l != nil {
			t.Errorf("P13.2: Behind of no volume: %v", l)
		}
	}
	was.still(t, "P13.2: of no volume", d, v)
}

func TestAllAndBehindOfAVolumeOfNobody(t *testing.T) {
	_, v := begun(t, blob(7, 5))
	nobody := &vol.Vol{}
	alls(t, "of a volume of nobody", nobody, v, 0, 0)
	alls(t, "on a volume of nobody", v, nobody, 0, api.ErrFull)
	alls(t, "of a volume of nobody on itself", nobody, nobody, 0, 0)
	behind(t, "P13.2: of a volume of nobody", nobody, v)
	behind(t, "P13.2: of a volume of nobody", v, nobody, 7)
	behind(t, "P13.2: of a volume of nobody", nobody, nobody)
}

func TestAllOfNewVolumes(t *testing.T) {
	d, v := begun(t)
	e, w := begun(t)
	was, also := seen(d, v), seen(e, w)
	idle(t, "P13.2: All of new volumes", func() {
		alls(t, "of a new volume to a new one", v, w, 0, 0)
		alls(t, "of a new volume to itself", v, v, 0, 0)
		behind(t, "P13.2: of new volumes", v, w)
		behind(t, "P13.2: of a new volume and itself", v, v)
	}, d, e)
	was.still(t, "P13.2: of new volumes", d, v)
	also.still(t, "P13.2: of new volumes", e, w)
}

// So many keys, as loads have or some more: the key 0 and the greatest one, too.
func TestAllOfSoMany(t *testing.T) {
	for _, n := range []int{0, 1, 2, 62, 63, 64, 65, 127, 128, 129, 192, 193, 4096} {
		for _, gone := range []bool{false, true} {
			l := blobs(n)
			for i := range l {
				if gone && i%3 == 0 {
					l[i] = dead(l[i].Key)
				}
			}
			why := fmt.Sprintf("of %d keys", n)
			d, v := begun(t, l...)
			e, w := begun(t)
			was := seen(d, v)
			var keys []uint64
			for _, x := range l {
				keys = append(keys, x.Key)
			}
			behind(t, "P13.2: "+why, v, w, keys...)
			idle(t, "P13.2: All "+why, func() { alls(t, why, v, w, n, 0) }, d)
			was.still(t, "P13.2: All "+why, d, v)
			holds(t, "P13.2: All "+why, w, l)
			behind(t, "P13.3: "+why, v, w)
			behind(t, "P13.3: "+why, w, v)
			twice(t, why, d, v, e, w, n)
		}
	}
}

// A volume to itself, whatever it is: what it has is there.
func TestAllToItself(t *testing.T) {
	each(t, func(kind string, d *disk.Disk, v *vol.Vol, laid []api.Needle) {
		twice(t, kind+" to itself", d, v, d, v, len(newest(laid)))
		behind(t, "P13.2: "+kind+" and itself", v, v)
		for _, n := range newest(laid) {
			spoil(t, d, v, 12, n.Key)
			twice(t, kind+" with a bad needle to itself", d, v, d, v, len(load(laid, 0, 64, n.Key).L))
			spoil(t, d, v, 12, n.Key)
		}
		was := seen(d, v)
		must(t, d.Arm(0))
		live := v.Info().Live
		alls(t, kind+" on a disk that is down to itself", v, v, len(newest(laid))-live, 0)
		must(t, d.Crash(disk.Picks{Names: 99, Files: slices.Repeat([]disk.Pick{{Keep: plenty}}, 99)}))
		was.still(t, "P13.2: All "+kind+" to itself", d, v)
	})
}

// carried tells what there is on a volume on which what another one has was laid,
// but for its bad blobs, up to the first error; and how many were.
func carried(from, to []api.Needle, bad ...uint64) ([]api.Needle, int, api.Code) {
	has := newest(to)
	n := 0
	for _, x := range load(from, 0, 4096, bad...).L {
		i := slices.IndexFunc(has, func(y api.Needle) bool { return y.Key == x.Key })
		switch {
		case i < 0:
			has = append(has, x)
		case has[i].Cookie != x.Cookie:
			return has, n, api.ErrCookie
		case x.Gone:
			has[i] = x
		case !has[i].Gone && string(has[i].Data) != string(x.Data):
			return has, n, api.ErrThere
		}
		n++
	}
	return has, n, 0
}

// lacking tells the keys that are behind.
func lacking(a, b []api.Needle) []uint64 {
	var keys []uint64
	for _, x := range newest(a) {
		i := slices.IndexFunc(newest(b), func(y api.Needle) bool { return y.Key == x.Key })
		if i < 0 || x.Gone && !newest(b)[i].Gone {
			keys = append(keys, x.Key)
		}
	}
	return keys
}

// Each kind on each other kind.
func TestAllOfKindsOnKinds(t *testing.T) {
	codes := map[api.Code]int{}
	for _, one := range slices.Sorted(maps.Keys(kinds)) {
		for _, two := range slices.Sorted(maps.Keys(kinds)) {
			for _, state := range slices.Sorted(maps.Keys(states)) {
				d, v := begun(t, kinds[one]...)
				e, w := begun(t, kinds[two]...)
				v, w = states[state](t, d, v), states[state](t, e, w)
				why := fmt.Sprintf("of a volume %s to one %s%s", one, two, state)
				has, n, code := carried(kinds[one], kinds[two])
				behind(t, "P13.2: "+why, v, w, lacking(kinds[one], kinds[two])...)
				was := seen(d, v)
				idle(t, "P13.2: All "+why, func() { alls(t, why, v, w, n, code) }, d)
				was.still(t, "P13.2: All "+why, d, v)
				holds(t, "P13.2: All "+why, w, has)
				if codes[code]++; code == 0 {
					behind(t, "P13.3: "+why, v, w)
					twice(t, why, d, v, e, w, n)
				}
			}
		}
	}
	if codes[0] == 0 || codes[api.ErrThere] == 0 {
		t.Errorf("P13.2: All of kinds on kinds: %v", codes)
	}
}

// end is what a volume has of the key 7, its bytes spoilt or not.
type end struct {
	l   []api.Needle
	bad bool
}

var ends = map[string]end{
	"nothing":           {},
	"a blob":            {[]api.Needle{blob(7, 5)}, false},
	"a bad blob":        {[]api.Needle{blob(7, 5)}, true},
	"other data":        {[]api.Needle{blob(7, 6)}, false},
	"another cookie":    {[]api.Needle{other(blob(7, 5))}, false},
	"gone":              {[]api.Needle{blob(7, 5), dead(7)}, false},
	"gone, and bad":     {[]api.Needle{dead(7)}, true},
	"gone, of another":  {[]api.Needle{other(dead(7))}, false},
	"bad, of another":   {[]api.Needle{other(blob(7, 5))}, true},
	"bad, with another": {[]api.Needle{blob(7, 12)}, true},
}

// begin tells a volume that has an end's key 7, and others.
func (x end) begin(t *testing.T, l ...api.Needle) (*disk.Disk, *vol.Vol) {
	t.Helper()
	d, v := begun(t, append(l, x.l...)...)
	if x.bad {
		spoil(t, d, v, 12, 7)
	}
	return d, v
}

// What one volume has of a key, and another one: both bad, or not.
func TestAllAndBehindOfEnds(t *testing.T) {
	for one, a := range ends {
		for two, b := range ends {
			why := fmt.Sprintf("of %s to %s", one, two)
			d, v := a.begin(t, blob(6, 1), blob(8, 2))
			e, w := b.begin(t, blob(8, 2))
			behind(t, "P13.2: "+why, v, w, lacking(slices.Concat(a.l, []api.Needle{blob(6, 1)}), b.l)...)
			behind(t, "P13.2: "+why+", the other way", w, v, lacking(b.l, a.l)...)
			var bad []uint64
			if a.bad {
				bad = []uint64{7}
			}
			has, n, code := carried(slices.Concat(a.l, []api.Needle{blob(6, 1), blob(8, 2)}), slices.Concat(b.l, []api.Needle{blob(8, 2)}), bad...)
			was := seen(d, v)
			got, err := ship.All(v, w)
			was.still(t, "P13.2: All "+why, d, v)
			x := slices.IndexFunc(has, func(x api.Needle) bool { return x.Key == 7 })
			// A bad blob of w's is bad, if it is looked at.
			if b.bad && !newest(b.l)[0].Gone && code != api.ErrCookie && len(a.l) > 0 && !a.bad && !newest(a.l)[0].Gone {
				n, code = 1, api.ErrSum
				isAt(t, "P13.2: All "+why, err, code, "v3.1", pos(t, w, 7).Off)
				x = -1
			} else {
				bare(t, "P13.2: All "+why, err, code)
			}
			if got != n {
				t.Errorf("P13.2: All %s: %d were laid; want %d", why, got, n)
			}
			if x >= 0 {
				p := pos(t, w, 7)
				if p.Gone != has[x].Gone || p.Cookie != has[x].Cookie || p.Len != len(has[x].Data) {
					t.Errorf("P13.2: All %s: %+v; want %v", why, p, has[x])
				}
			}
			if code != 0 {
				continue
			}
			// What is bad is behind, if w has nothing of it.
			var left []uint64
			if len(a.l) > 0 && a.bad && !newest(a.l)[0].Gone && len(b.l) == 0 {
				left = bad
			}
			behind(t, "P13.3: "+why, v, w, left...)
			twice(t, why, d, v, e, w, n)
		}
	}
}

// bads are choices of some of 200 needles: whole loads, their ends, and others.
var bads = map[string]func(i int) bool{
	"none":             func(i int) bool { return false },
	"all":              func(i int) bool { return true },
	"the first one":    func(i int) bool { return i == 0 },
	"the last one":     func(i int) bool { return i == 199 },
	"a first load":     func(i int) bool { return i < 64 },
	"a second load":    func(i int) bool { return i >= 64 && i < 128 },
	"a third load":     func(i int) bool { return i >= 128 && i < 192 },
	"a last load":      func(i int) bool { return i >= 192 },
	"two loads":        func(i int) bool { return i < 128 },
	"all but a load":   func(i int) bool { return i < 64 || i >= 128 },
	"a load's ends":    func(i int) bool { return i%64 == 0 || i%64 == 63 },
	"every other one":  func(i int) bool { return i%2 == 0 },
	"all but the last": func(i int) bool { return i < 199 },
}

// Needles that are bad, wherever they stand: none of them is laid, all others are,
// and what is gone is none of them.
func TestAllOfBadNeedles(t *testing.T) {
	for what, isBad := range bads {
		for _, gone := range []int{-1, 3} {
			why := fmt.Sprintf("with bad needles: %s, gone at %d", what, gone)
			l := blobs(200)
			var whole []api.Needle
			var spoilt, bad []uint64
			for i := range l {
				if i%7 == gone {
					l[i] = dead(l[i].Key)
				}
				if isBad(i) {
					spoilt = append(spoilt, l[i].Key)
				}
				if isBad(i) && !l[i].Gone {
					bad = append(bad, l[i].Key)
				} else {
					whole = append(whole, l[i])
				}
			}
			d, v := begun(t, l...)
			e, w := begun(t)
			spoil(t, d, v, 12, spoilt...)
			was := seen(d, v)
			alls(t, why, v, w, len(whole), 0)
			was.still(t, "P13.2: All "+why, d, v)
			holds(t, "P13.2: All "+why, w, whole)
			behind(t, "P13.3: "+why, v, w, bad...)
			twice(t, why, d, v, e, w, len(whole))
			// Mended, they are laid, too.
			spoil(t, d, v, 12, spoilt...)
			alls(t, why+", mended", v, w, 200, 0)
			behind(t, "P13.3: "+why+", mended", v, w)
			holds(t, "P13.2: All "+why+", mended", w, l)
		}
	}
}

// A first error in each load, at its ends and amid it: so many were laid then.
func TestAllUpToTheFirstError(t *testing.T) {
	l := blobs(150)
	for _, at := range []int{0, 1, 31, 62, 63, 64, 65, 100, 127, 128, 129, 148, 149} {
		for what, x := range map[string]struct {
			n    api.Needle
			code api.Code
		}{
			"another cookie":  {other(l[at]), api.ErrCookie},
			"other data":      {data(l[at], "another one"), api.ErrThere},
			"gone of another": {other(dead(l[at].Key)), api.ErrCookie},
		} {
			why := fmt.Sprintf("with an error at %d: %s", at, what)
			d, v := begun(t, l...)
			_, w := begun(t, x.n)
			alls(t, why, v, w, at, x.code)
			holds(t, "P13.2: All "+why, w, append(l[:at:at], x.n))
			var keys []uint64
			for _, n := range l[at+1:] {
				keys = append(keys, n.Key)
			}
			behind(t, "P13.2: "+why, v, w, keys...)
			// Again it ends there.
			alls(t, why+", again", v, w, at, x.code)
			if at == 149 {
				continue
			}
			// Those ahead of it that are bad weren't laid; if it is bad itself, nobody
			// comes to it.
			_, w = begun(t, x.n)
			spoil(t, d, v, 12, l[at].Key, greatest)
			alls(t, why+" that is bad", v, w, 148, 0)
			spoil(t, d, v, 12, l[at].Key, greatest)
			for i, n := range l[:at] {
				if i%2 == 0 {
					spoil(t, d, v, 12, n.Key)
				}
			}
			_, w = begun(t, x.n)
			alls(t, why+" behind bad ones", v, w, at/2, x.code)
		}
	}
}

// A key whose needle is bad on the other volume: its own error, where it stands.
func TestAllToBadNeedles(t *testing.T) {
	l := blobs(150)
	for _, at := range []int{0, 63, 64, 127, 128, 149} {
		_, v := begun(t, l...)
		e, w := begun(t, l[at])
		spoil(t, e, w, 12, l[at].Key)
		n, err := ship.All(v, w)
		isAt(t, "P13.2: All to a bad needle", err, api.ErrSum, "v3.1", 16)
		if n != at || w.Info().Live != max(at+1, 1) {
			t.Errorf("P13.2: All to a bad needle at %d: %d were laid; %+v", at, n, w.Info())
		}
		// What is bad there is no reason to be behind.
		var keys []uint64
		for _, n := range l[at+1:] {
			keys = append(keys, n.Key)
		}
		behind(t, "P13.2: a bad needle", v, w, keys...)
		behind(t, "P13.2: a bad needle, the other way", w, v)
	}
}

// A sealed volume is laid on, and taken from.
func TestAllOfSealedVolumes(t *testing.T) {
	for which := range 4 {
		d, v := begun(t, blobs(130)...)
		e, w := begun(t, blobs(130)[40:80]...)
		must(t, v.Set(5, which&1 != 0), w.Set(6, which&2 != 0))
		alls(t, "of sealed volumes", v, w, 130, 0)
		holds(t, "P13.2: All of sealed volumes", w, blobs(130))
		if i := w.Info(); i.Sealed != (which&2 != 0) || i.Epoch != 6 {
			t.Errorf("P13.2: All of sealed volumes: %+v", i)
		}
		behind(t, "P13.3: of sealed volumes", v, w)
		twice(t, "of sealed volumes", d, v, e, w, 130)
	}
}

// The volume, its disk, or its index has room for so many.
func TestAllUntilItIsFull(t *testing.T) {
	l := blobs(150)
	_, v := begun(t, l...)
	size := 0
	for n := range 151 {
		code := api.Code(0)
		if n < 150 {
			code = api.ErrFull
		}
		for _, more := range []int{0, 31} {
			if n == 150 && more > 0 {
				continue
			}
			w := sure(vol.Make(sure(disk.New(plenty)), 4, 16+size+more, 0))
			alls(t, fmt.Sprintf("on a volume with room for %d", n), v, w, n, code)
			holds(t, "P13.2: All on a volume that is full then", w, l[:n])
			w = sure(vol.Make(sure(disk.New(40+size+more)), 4, plenty, 0))
			alls(t, fmt.Sprintf("on a disk with room for %d", n), v, w, n, code)
			holds(t, "P13.2: All on a disk that is full then", w, l[:n])
		}
		if n < 150 {
			size += 32 + (len(l[n].Data)+7)/8*8
		}
	}
	for _, n := range []int{0, 1, 64, 65, 149, 150} {
		_, w := begun(t)
		for i := range 4096 - n {
			must(t, w.Lay(dead(uint64(i)+1)))
		}
		code := api.ErrFull
		if n == 150 {
			code = 0
		}
		alls(t, fmt.Sprintf("on an index with room for %d", n), v, w, n, code)
		alls(t, fmt.Sprintf("on an index with room for %d, again", n), v, w, n, code)
	}
}

// The other volume's disk goes down behind so many deeds.
func TestAllUntilTheDiskIsDown(t *testing.T) {
	l := blobs(140)
	_, v := begun(t, l...)
	for deeds := range 281 {
		d, w := begun(t)
		must(t, d.Arm(deeds))
		code := api.ErrDown
		if deeds == 280 {
			code = 0
		}
		alls(t, fmt.Sprintf("with %d deeds", deeds), v, w, deeds/2, code)
		must(t, d.Crash(disk.Picks{}))
		w = sure(vol.Open(d, 3, plenty))
		holds(t, fmt.Sprintf("P13.2: Open behind All with %d deeds", deeds), w, l[:deeds/2])
	}
}

// Of a disk that is down all blobs are bad, and what is gone is carried.
func TestAllOfADiskThatIsDown(t *testing.T) {
	each(t, func(kind string, d *disk.Disk, v *vol.Vol, laid []api.Needle) {
		_, w := begun(t)
		gone := slices.DeleteFunc(newest(laid), func(n api.Needle) bool { return !n.Gone })
		blobs := slices.DeleteFunc(newest(laid), func(n api.Needle) bool { return n.Gone })
		must(t, d.SyncNames(), d.Arm(0))
		alls(t, kind+" on a disk that is down", v, w, len(gone), 0)
		holds(t, "P13.2: All "+kind+" on a disk that is down", w, gone)
		var keys []uint64
		for _, n := range blobs {
			keys = append(keys, n.Key)
		}
		behind(t, "P13.3: "+kind+" on a disk that is down", v, w, keys...)
	})
}

// Two volumes of one disk, which goes down: a load that was taken ahead of that
// ends with the error, one that is taken then is bad.
func TestAllOnOneDisk(t *testing.T) {
	for deeds := range 300 {
		d, v := begun(t, blobs(130)...)
		w := sure(vol.Make(d, 4, plenty, 0))
		must(t, d.Arm(deeds))
		n, code := min(deeds/2, 130), api.ErrDown
		if deeds%128 == 0 || deeds >= 260 {
			code = 0
		}
		alls(t, fmt.Sprintf("of two volumes of one disk with %d deeds", deeds), v, w, n, code)
	}
}

// Two that opened the same file: what one of them laid stands behind what the
// other one has.
func TestAllOfOneFile(t *testing.T) {
	d, v := begun(t, blobs(70)...)
	w := sure(vol.Open(d, 3, plenty))
	twice(t, "of one file", d, v, d, w, 70)
	must(t, v.Put(blob(5, 9)))
	behind(t, "P13.2: of one file", v, w, 5)
	behind(t, "P13.2: of one file", w, v)
}

// What is carried by way of a third volume, or of another generation.
func TestAllByWayOfOthers(t *testing.T) {
	each(t, func(kind string, d *disk.Disk, v *vol.Vol, laid []api.Needle) {
		e, w := begun(t)
		n := len(newest(laid))
		alls(t, kind+" to a first one", v, w, n, 0)
		must(t, compact.Run(e, w))
		x := sure(vol.Make(e, 65535, plenty, 0))
		alls(t, kind+" to a second one", w, x, n, 0)
		holds(t, "P13.2: All "+kind+" to a second one", x, laid)
		alls(t, kind+" and back", x, v, n, 0)
		behind(t, "P13.3: "+kind, v, x)
		behind(t, "P13.3: "+kind, x, v)
	})
}

// Keys of which one has what the other one hasn't, by hand.
func TestBehind(t *testing.T) {
	for _, x := range []struct {
		a, b []api.Needle
		keys []uint64
	}{
		{nil, []api.Needle{blob(7, 5), dead(8)}, nil},
		{[]api.Needle{blob(7, 5)}, nil, []uint64{7}},
		{[]api.Needle{dead(7)}, nil, []uint64{7}},
		{[]api.Needle{blob(0, 5), dead(greatest)}, nil, []uint64{0, greatest}},
		{[]api.Needle{blob(0, 5), dead(greatest)}, []api.Needle{dead(0), blob(greatest, 1)}, []uint64{greatest}},
		{[]api.Needle{dead(0), blob(greatest, 1)}, []api.Needle{blob(0, 5), dead(greatest)}, []uint64{0}},
		{[]api.Needle{blob(9, 5), blob(3, 1), dead(5), blob(4, 1)}, []api.Needle{blob(4, 1), blob(6, 1)}, []uint64{3, 5, 9}},
		{[]api.Needle{blob(7, 5)}, []api.Needle{blob(6, 5), blob(8, 5)}, []uint64{7}},
		{[]api.Needle{dead(7)}, []api.Needle{dead(6), dead(8)}, []uint64{7}},
		{[]api.Needle{blob(6, 5), blob(8, 5)}, []api.Needle{blob(7, 5)}, []uint64{6, 8}},
		{[]api.Needle{dead(7)}, []api.Needle{blob(7, 5)}, []uint64{7}},
		{[]api.Needle{dead(7)}, []api.Needle{blob(7, 5), dead(8)}, []uint64{7}},
		{[]api.Needle{dead(7)}, []api.Needle{other(blob(7, 5))}, []uint64{7}},
		{[]api.Needle{dead(7)}, []api.Needle{dead(7)}, nil},
		{[]api.Needle{dead(7)}, []api.Needle{other(dead(7))}, nil},
		{[]api.Needle{blob(7, 5)}, []api.Needle{blob(7, 5)}, nil},
		{[]api.Needle{blob(7, 5)}, []api.Needle{blob(7, 6)}, nil},
		{[]api.Needle{blob(7, 5)}, []api.Needle{other(blob(7, 5))}, nil},
		{[]api.Needle{blob(7, 5)}, []api.Needle{dead(7)}, nil},
		{[]api.Needle{blob(7, 5)}, []api.Needle{other(dead(7))}, nil},
		{[]api.Needle{blob(1<<63, 1), blob(1<<63-1, 1), blob(1<<32, 1)}, []api.Needle{blob(1<<31, 1), dead(1 << 33)}, []uint64{1 << 32, 1<<63 - 1, 1 << 63}},
	} {
		for one, a := range states {
			for two, b := range states {
				d, v := begun(t, x.a...)
				e, w := begun(t, x.b...)
				v, w = a(t, d, v), b(t, e, w)
				why := fmt.Sprintf("P13.2: %.200s%s, and %.200s%s", fmt.Sprint(x.a), one, fmt.Sprint(x.b), two)
				was, also := seen(d, v), seen(e, w)
				idle(t, why, func() { behind(t, why, v, w, x.keys...) }, d, e)
				was.still(t, why, d, v)
				also.still(t, why, e, w)
				// Needles that are bad play no part, nor do the disks.
				for _, p := range all(v) {
					spoil(t, d, v, 12, p.Key)
				}
				behind(t, why+", bad needles", v, w, x.keys...)
				for _, p := range all(w) {
					spoil(t, e, w, 12, p.Key)
				}
				behind(t, why+", bad needles", v, w, x.keys...)
				must(t, d.Arm(0))
				behind(t, why+", a disk that is down", v, w, x.keys...)
				must(t, e.Arm(0))
				behind(t, why+", disks that are down", v, w, x.keys...)
			}
		}
	}
}

// As many keys as a volume may have: more than a load.
func TestBehindOfMany(t *testing.T) {
	for _, n := range []int{63, 64, 65, 66, 128, 129, 4095, 4096} {
		l := blobs(n)
		_, v := begun(t, l...)
		for _, every := range []int{1, 2, 3, 64, 65} {
			_, w := begun(t)
			var keys []uint64
			for i, x := range l {
				if i%every == 0 {
					must(t, w.Lay(dead(x.Key)))
				} else {
					keys = append(keys, x.Key)
				}
			}
			why := fmt.Sprintf("P13.2: of %d keys without one in %d", n, every)
			behind(t, why, v, w, keys...)
			// The other way those that are gone are behind.
			var gone []uint64
			for i, x := range l {
				if i%every == 0 {
					gone = append(gone, x.Key)
				}
			}
			behind(t, why+", the other way", w, v, gone...)
		}
	}
}

// What Behind tells is the caller's.
func TestBehindTellsTheCallers(t *testing.T) {
	d, v := begun(t, blob(7, 5), dead(8), blob(9, 1))
	e, w := begun(t)
	was, also := seen(d, v), seen(e, w)
	for range 3 {
		one, two := sure(ship.Behind(v, w)), sure(ship.Behind(v, w))
		for i := range one[:cap(one)] {
			one[:cap(one)][i] = 77
		}
		if !slices.Equal(two, []uint64{7, 8, 9}) {
			t.Errorf("P13.2: Behind, behind another one that was rubbed: %v", two)
		}
	}
	was.still(t, "P13.2: Behind, rubbed", d, v)
	also.still(t, "P13.2: Behind, rubbed", e, w)
}

// Volumes that go on: what comes is behind till it is carried.
func TestAllBetweenWork(t *testing.T) {
	d, v := begun(t, blobs(70)...)
	e, w := begun(t)
	for i := range uint64(20) {
		must(t, v.Put(blob(1+3*i, int(i))), v.Lay(dead(2+3*i)), v.Del(blobs(70)[i].Key, blobs(70)[i].Cookie))
		alls(t, "between work", v, w, 70+2*int(i+1), 0)
		behind(t, "P13.3: between work", v, w)
		must(t, w.Del(1+3*i, 101+3*uint32(i)))
		behind(t, "P13.2: between work", v, w)
		behind(t, "P13.2: between work, the other way", w, v, wanted(i)...)
	}
	twice(t, "between work", d, v, e, w, 110)
}

// wanted tells the keys that were deleted on the second volume alone.
func wanted(i uint64) []uint64 {
	var keys []uint64
	for j := range i + 1 {
		keys = append(keys, 1+3*j)
	}
	return keys
}
