package ship_test

import (
	"bytes"
	"fmt"
	"slices"
	"testing"

	"corncrib/api"
	"corncrib/disk"
	"corncrib/sample"
	"corncrib/ship"
	"corncrib/vol"
)

// lays asks what Lay tells, if that is a code as it is.
func lays(t *testing.T, why string, v *vol.Vol, l []api.Needle, n int, code api.Code) {
	t.Helper()
	why = fmt.Sprintf("P13.1: Lay %s", why)
	got, e := ship.Lay(v, l)
	bare(t, why, e, code)
	if got != n {
		t.Errorf("%s: %d were done; want %d", why, got, n)
	}
}

// holds asks that a volume has just these needles, whole.
func holds(t *testing.T, why string, v *vol.Vol, want []api.Needle) {
	t.Helper()
	want = newest(want)
	keys := all(v)
	if len(keys) != len(want) {
		t.Fatalf("%s: %d keys; want %d", why, len(keys), len(want))
	}
	for i, p := range keys {
		got := api.Needle{Key: p.Key, Cookie: p.Cookie, Gone: p.Gone}
		if !p.Gone {
			n, e := v.Get(p.Key, p.Cookie)
			is(t, why, e, 0)
			got.Data = n.Data
		}
		needles(t, why, []api.Needle{got}, want[i:i+1])
	}
}

// data tells a needle with other data.
func data(n api.Needle, b string) api.Needle {
	n.Data = []byte(b)
	return n
}

// long tells a needle with more data than may be.
func long(n api.Needle) api.Needle {
	n.Data = sample.Bytes(4097)
	return n
}

func TestLayOnNoVolume(t *testing.T) {
	for _, l := range [][]api.Needle{nil, {}, {blob(7, 5)}, {dead(7), blob(8, 5)}, {long(blob(7, 0))}, {data(dead(7), "x"), blob(7, 5)}} {
		lays(t, fmt.Sprintf("of %d needles on no volume", len(l)), nil, l, 0, api.ErrNil)
	}
}

// A volume that nobody made has no room, and no disk.
func TestLayOnAVolumeOfNobody(t *testing.T) {
	v := &vol.Vol{}
	lays(t, "of no needles on a volume of nobody", v, nil, 0, 0)
	lays(t, "on a volume of nobody", v, []api.Needle{blob(7, 5)}, 0, api.ErrFull)
	lays(t, "on a volume of nobody", v, []api.Needle{data(dead(7), "x")}, 0, api.ErrArg)
}

func TestLayOfNothing(t *testing.T) {
	each(t, func(kind string, d *disk.Disk, v *vol.Vol, laid []api.Needle) {
		was := seen(d, v)
		idle(t, "P13.1: Lay of nothing", func() {
			lays(t, "of nothing on "+kind, v, nil, 0, 0)
			lays(t, "of nothing on "+kind, v, []api.Needle{}, 0, 0)
			lays(t, "of nothing on "+kind, v, []api.Needle{blob(1, 1)}[:0], 0, 0)
		}, d)
		was.still(t, "P13.1: Lay of nothing on "+kind, d, v)
		must(t, d.Arm(0))
		lays(t, "of nothing on a disk that is down", v, nil, 0, 0)
	})
}

// What one volume has is laid on a new one, and once more on itself, on which it
// stays as it is.
func TestLayOfALoad(t *testing.T) {
	each(t, func(kind string, d *disk.Disk, v *vol.Vol, laid []api.Needle) {
		x := sure(ship.Take(v, 0, 64))
		e, w := begun(t)
		lays(t, "of what is taken "+kind, w, x.L, len(x.L), 0)
		holds(t, "P13.1: Lay of what is taken "+kind, w, laid)
		was, also := seen(d, v), seen(e, w)
		idle(t, "P13.1: Lay of what is there", func() {
			lays(t, "of what is there, "+kind, v, x.L, len(x.L), 0)
			lays(t, "once more, "+kind, w, x.L, len(x.L), 0)
		}, d, e)
		was.still(t, "P13.1: Lay of what is there, "+kind, d, v)
		also.still(t, "P13.1: Lay once more, "+kind, e, w)
	})
}

// orders tells all orders of needles.
func orders(l []api.Needle) [][]api.Needle {
	if len(l) < 2 {
		return [][]api.Needle{l}
	}
	var all [][]api.Needle
	for i := range l {
		for _, rest := range orders(slices.Delete(slices.Clone(l), i, i+1)) {
			all = append(all, append([]api.Needle{l[i]}, rest...))
		}
	}
	return all
}

// Needles in any order, each laid where the last one ends.
func TestLayInAnyOrder(t *testing.T) {
	for _, l := range orders([]api.Needle{blob(9, 5), dead(7), blob(0, 0), blob(greatest, 12), dead(3)}) {
		_, v := begun(t)
		lays(t, "in any order", v, l, 5, 0)
		holds(t, "P13.1: Lay in any order", v, l)
		off := 16
		for _, n := range l {
			if p := pos(t, v, n.Key); p.Off != off {
				t.Errorf("P13.1: Lay in any order: %d stands at %d; want %d", n.Key, p.Off, off)
			}
			off += 32 + (len(n.Data)+7)/8*8
		}
	}
	// Of one key: whatever the order, it is gone if one of them says so.
	for _, l := range orders([]api.Needle{blob(7, 5), dead(7), blob(7, 5), dead(7)}) {
		_, v := begun(t)
		lays(t, "of one key", v, l, 4, 0)
		holds(t, "P13.1: Lay of one key", v, []api.Needle{dead(7)})
	}
}

// One needle twice is written once, and counted twice.
func TestLayOfOneTwice(t *testing.T) {
	for what, l := range map[string][]api.Needle{
		"blobs":      {blob(7, 5), blob(7, 5)},
		"no data":    {blob(7, 0), {Key: 7, Cookie: 107}},
		"deletions":  {dead(7), dead(7), dead(7)},
		"two of two": {blob(7, 5), dead(8), blob(7, 5), dead(8)},
	} {
		_, v := begun(t)
		lays(t, "of "+what+" twice", v, l, len(l), 0)
		_, w := begun(t)
		for _, n := range newest(l) {
			must(t, w.Lay(n))
		}
		if v.Info() != w.Info() || !slices.Equal(all(v), all(w)) {
			t.Errorf("P13.1: Lay of %s twice: %+v; want %+v", what, all(v), all(w))
		}
	}
	_, v := begun(t)
	lays(t, "of one twice, with other data", v, []api.Needle{blob(7, 5), blob(8, 1), blob(7, 6), blob(9, 1)}, 2, api.ErrThere)
	holds(t, "P13.1: Lay of one twice, with other data", v, []api.Needle{blob(7, 5), blob(8, 1)})
}

// had are what a volume may have of the key 7.
var had = map[string][]api.Needle{
	"none":         nil,
	"a blob":       {blob(7, 5)},
	"no data":      {blob(7, 0)},
	"gone":         {dead(7)},
	"a blob, gone": {blob(7, 5), dead(7)},
}

// What is laid on what, what is told, and what the key has then.
func TestLayOfWhatOnWhat(t *testing.T) {
	same := data(blob(7, 5), string(sample.Bytes(5)))
	for _, x := range []struct {
		had  string
		n    api.Needle
		code api.Code
		has  []api.Needle // behind it, if it is written
	}{
		{"none", blob(7, 5), 0, []api.Needle{blob(7, 5)}},
		{"none", dead(7), 0, []api.Needle{dead(7)}},
		{"none", api.Needle{Key: 7}, 0, []api.Needle{{Key: 7}}},
		{"none", blob(7, 4096), 0, []api.Needle{blob(7, 4096)}},
		{"none", long(blob(7, 0)), api.ErrLong, nil},
		{"none", data(dead(7), "x"), api.ErrArg, nil},
		{"none", long(dead(7)), api.ErrLong, nil},
		{"a blob", same, 0, nil},
		{"a blob", blob(7, 4), api.ErrThere, nil},
		{"a blob", blob(7, 6), api.ErrThere, nil},
		{"a blob", blob(7, 0), api.ErrThere, nil},
		{"a blob", data(same, "other"), api.ErrThere, nil},
		{"a blob", other(same), api.ErrCookie, nil},
		{"a blob", other(blob(7, 6)), api.ErrCookie, nil},
		{"a blob", dead(7), 0, []api.Needle{dead(7)}},
		{"a blob", other(dead(7)), api.ErrCookie, nil},
		{"a blob", long(same), api.ErrLong, nil},
		{"a blob", long(other(same)), api.ErrLong, nil},
		{"a blob", data(dead(7), "x"), api.ErrArg, nil},
		{"a blob", data(other(dead(7)), "x"), api.ErrArg, nil},
		{"no data", blob(7, 0), 0, nil},
		{"no data", api.Needle{Key: 7, Cookie: 107}, 0, nil},
		{"no data", blob(7, 1), api.ErrThere, nil},
		{"no data", dead(7), 0, []api.Needle{dead(7)}},
		{"gone", same, 0, nil},
		{"gone", blob(7, 0), 0, nil},
		{"gone", other(same), api.ErrCookie, nil},
		{"gone", dead(7), 0, nil},
		{"gone", other(dead(7)), api.ErrCookie, nil},
		{"gone", long(same), api.ErrLong, nil},
		{"gone", data(dead(7), "x"), api.ErrArg, nil},
		{"a blob, gone", same, 0, nil},
		{"a blob, gone", blob(7, 6), 0, nil},
		{"a blob, gone", dead(7), 0, nil},
		{"a blob, gone", other(same), api.ErrCookie, nil},
		{"a blob, gone", other(dead(7)), api.ErrCookie, nil},
	} {
		for _, sealed := range []bool{false, true} {
			d, v := begun(t, had[x.had]...)
			must(t, v.Set(5, sealed))
			why := fmt.Sprintf("of %.80s where there is %s, sealed: %v", fmt.Sprint(x.n), x.had, sealed)
			// Between others: those behind it are laid if it is.
			l := []api.Needle{blob(8, 3), x.n, dead(6)}
			has := slices.Concat(had[x.had], x.has, l[:1])
			if x.code == 0 {
				has = append(has, l[2])
				lays(t, why, v, l, 3, 0)
			} else {
				lays(t, why, v, l, 1, x.code)
			}
			holds(t, "P13.1: Lay "+why, v, has)
			want := 16
			for _, n := range has {
				want += 32 + (len(n.Data)+7)/8*8
			}
			if got := sure(d.Size("v3.1")); got != want || v.Info().Size != want {
				t.Errorf("P13.1: Lay %s: %d bytes; want %d", why, got, want)
			}
		}
	}
}

// The place of the first error among the needles: so many are done.
func TestLayUpToTheFirstError(t *testing.T) {
	for n := 1; n <= 70; n += 3 {
		for at := range n {
			_, v := begun(t, other(blobs(n)[at]))
			l := blobs(n)
			lays(t, fmt.Sprintf("of %d needles, %d is wrong", n, at), v, l, at, api.ErrCookie)
			holds(t, fmt.Sprintf("P13.1: Lay of %d needles, %d is wrong", n, at), v, append(blobs(n)[:at:at], other(l[at])))
		}
	}
	// Behind the first error there may be others: nobody comes to them.
	_, v := begun(t, blob(7, 5), dead(8), blob(9, 5))
	for _, x := range []struct {
		l    []api.Needle
		n    int
		code api.Code
	}{
		{[]api.Needle{blob(7, 6), other(blob(7, 5)), long(blob(7, 5))}, 0, api.ErrThere},
		{[]api.Needle{other(blob(7, 5)), blob(7, 6)}, 0, api.ErrCookie},
		{[]api.Needle{blob(7, 5), blob(8, 9), long(blob(9, 5)), other(dead(7))}, 2, api.ErrLong},
		{[]api.Needle{blob(8, 9), data(dead(9), "x"), long(blob(9, 5))}, 1, api.ErrArg},
		{[]api.Needle{blob(7, 5), blob(8, 1), blob(9, 5), blob(9, 4), dead(9)}, 3, api.ErrThere},
	} {
		lays(t, fmt.Sprint("of wrong needles, ", x.code), v, x.l, x.n, x.code)
		holds(t, "P13.1: Lay of wrong needles", v, []api.Needle{blob(7, 5), dead(8), blob(9, 5)})
	}
}

// One whose own needle of the key is bad tells where, as vol does.
func TestLayOnABadNeedle(t *testing.T) {
	for off, code := range map[int]api.Code{0: api.ErrForm, 4: api.ErrForm, 9: api.ErrSum, 17: api.ErrSum, 24: api.ErrSum, 31: api.ErrForm, 33: api.ErrSum, 38: api.ErrForm} {
		for _, n := range []api.Needle{blob(7, 5), blob(7, 6), {Key: 7, Cookie: 107}} {
			d, v := begun(t, blob(9, 12), blob(7, 5))
			spoil(t, d, v, off, 7)
			why := fmt.Sprintf("P13.1: Lay on a needle with byte %d turned", off)
			got, e := ship.Lay(v, []api.Needle{blob(6, 1), blob(9, 12), n, blob(8, 1)})
			isAt(t, why, e, code, "v3.1", 64)
			if got != 2 || v.Info().Live != 3 {
				t.Errorf("%s: %d were done, %+v", why, got, v.Info())
			}
			// A cookie, and what is gone, is told by the position.
			lays(t, "on a bad needle", v, []api.Needle{blob(10, 1), other(n)}, 1, api.ErrCookie)
			lays(t, "on a bad needle", v, []api.Needle{blob(6, 1), dead(7), n, blob(8, 1)}, 4, 0)
			holds(t, why, v, []api.Needle{blob(6, 1), blob(8, 1), blob(9, 12), blob(10, 1), dead(7)})
		}
	}
	d, v := begun(t, blob(7, 5))
	must(t, d.Cut("v3.1", 55))
	lays(t, "where the file is cut", v, []api.Needle{blob(7, 5)}, 0, api.ErrShort)
	must(t, d.Remove("v3.1"))
	lays(t, "without a file", v, []api.Needle{blob(7, 5)}, 0, api.ErrNone)
	lays(t, "without a file", v, []api.Needle{blob(8, 5)}, 0, api.ErrNone)
}

// The volume has room for so many, and for some bytes more.
func TestLayUntilTheVolumeIsFull(t *testing.T) {
	l := []api.Needle{blob(5, 5), blob(1, 8), dead(3), blob(4, 3), blob(0, 16), blob(2, 0)}
	sizes := []int{40, 40, 32, 40, 48, 32}
	for most := 16; most <= 16+240; most++ {
		room, n := most-16, 0
		for n < len(l) && room >= sizes[n] {
			room -= sizes[n]
			n++
		}
		code := api.Code(0)
		if n < len(l) {
			code = api.ErrFull
		}
		v := sure(vol.Make(sure(disk.New(plenty)), 3, most, 0))
		lays(t, fmt.Sprintf("on a volume of at most %d bytes", most), v, l, n, code)
		holds(t, fmt.Sprintf("P13.1: Lay on a volume of at most %d bytes", most), v, l[:n])
		// The disk has 24 bytes more, which are the manifest's.
		v = sure(vol.Make(sure(disk.New(most+24)), 3, plenty, 0))
		lays(t, fmt.Sprintf("on a disk of %d bytes", most+24), v, l, n, code)
		holds(t, fmt.Sprintf("P13.1: Lay on a disk of %d bytes", most+24), v, l[:n])
	}
	// What needs no room is done on a full one.
	v := sure(vol.Make(sure(disk.New(plenty)), 3, 16+40+32, 0))
	lays(t, "on a volume that is full then", v, []api.Needle{blob(7, 5), dead(8), blob(7, 5), blob(8, 1), dead(8), dead(7), blob(9, 1)}, 5, api.ErrFull)
	holds(t, "P13.1: Lay on a volume that is full then", v, []api.Needle{blob(7, 5), dead(8)})
}

// As many keys as a volume may have.
func TestLayUntilTheIndexIsFull(t *testing.T) {
	_, v := begun(t)
	l := blobs(4099)
	for i := range l {
		l[i].Data = nil
	}
	lays(t, "of more than 4096 needles", v, l, 4096, api.ErrFull)
	holds(t, "P13.1: Lay of more than 4096 needles", v, l[:4096])
	lays(t, "of needles that are there", v, l[:4096], 4096, 0)
	lays(t, "of a needle too many", v, []api.Needle{l[9], l[4095], l[4096], l[0]}, 2, api.ErrFull)
}

// The disk goes down behind so many deeds: an append and a sync of each needle.
func TestLayUntilTheDiskIsDown(t *testing.T) {
	l := []api.Needle{blob(5, 5), dead(3), blob(5, 5), blob(0, 16), dead(5), blob(2, 0)}
	written := []api.Needle{l[0], l[1], l[3], l[4], l[5]}
	// How many are done with so many deeds: the third one needs a disk that is up,
	// but no deed.
	done := []int{0, 0, 1, 1, 2, 3, 4, 4, 5, 5, 6}
	for deeds, n := range done {
		d, v := begun(t)
		must(t, d.Arm(deeds))
		why := fmt.Sprintf("with %d deeds", deeds)
		code := api.ErrDown
		if n == len(l) {
			code = 0
		}
		lays(t, why, v, l, n, code)
		// What was appended and not synced stands there, though it wasn't done.
		must(t, d.Crash(disk.Picks{Files: []disk.Pick{{Keep: plenty}}}))
		holds(t, "P13.1: Lay "+why, v, written[:(deeds+1)/2])
		v = sure(vol.Open(d, 3, plenty))
		holds(t, "P13.1: Open behind Lay "+why, v, written[:(deeds+1)/2])
	}
	d, v := begun(t, blob(7, 5), dead(8))
	must(t, d.SyncNames(), d.Arm(0))
	lays(t, "on a disk that is down", v, []api.Needle{dead(8), blob(8, 1), blob(9, 1), dead(8)}, 2, api.ErrDown)
	lays(t, "on a disk that is down", v, []api.Needle{dead(8), blob(7, 5)}, 1, api.ErrDown)
	lays(t, "on a disk that is down", v, []api.Needle{dead(8), other(blob(7, 5))}, 1, api.ErrCookie)
	lays(t, "on a disk that is down", v, []api.Needle{dead(8), long(blob(7, 5))}, 1, api.ErrLong)
	// A volume that is full needs no disk to tell that.
	w := sure(vol.Make(sure(disk.New(plenty)), 3, 16, 0))
	lays(t, "on a full volume", w, []api.Needle{blob(7, 5)}, 0, api.ErrFull)
	e := sure(disk.New(plenty))
	w = sure(vol.Make(e, 3, 16, 0))
	must(t, e.Arm(0))
	lays(t, "on a full volume of a disk that is down", w, []api.Needle{blob(7, 5)}, 0, api.ErrFull)
	lays(t, "on a full volume of a disk that is down", w, []api.Needle{data(dead(7), "x")}, 0, api.ErrArg)
}

// What was done lasts, whatever the crash.
func TestWhatWasLaidLasts(t *testing.T) {
	l := blobs(9)
	for deeds := range 19 {
		d, v := begun(t)
		must(t, d.Arm(deeds))
		n, _ := ship.Lay(v, l)
		must(t, d.Crash(disk.Picks{}))
		holds(t, fmt.Sprintf("P13.1: Lay with %d deeds, and a crash", deeds), sure(vol.Open(d, 3, plenty)), l[:n])
	}
}

// What is handed in stays as it is, and the volume keeps none of it.
func TestLayKeepsNothing(t *testing.T) {
	list := func() []api.Needle {
		return []api.Needle{blob(7, 5), dead(8), blob(9, 0), blob(6, 40), blob(7, 5), other(blob(7, 5)), blob(5, 5), long(blob(4, 1))}
	}
	l := list()
	_, v := begun(t)
	lays(t, "of needles that stay", v, l[:7:7], 5, api.ErrCookie)
	lays(t, "of needles that stay", v, l[4:5], 1, 0)
	needles(t, "P13.1: what was handed in", l, list())
	for i := range l {
		if !bytes.Equal(l[i].Data[:cap(l[i].Data)][:len(l[i].Data)], list()[i].Data) {
			t.Errorf("P13.1: the data of %d was changed", i)
		}
		sample.Spoil(l[i].Data)
		l[i] = api.Needle{}
	}
	holds(t, "P13.1: Lay of needles that were spoilt then", v, list()[:4])
}
