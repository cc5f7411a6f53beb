package vol_test

import (
	"errors"
	"fmt"
	"maps"
	"slices"
	"testing"

	"corncrib/api"
	"corncrib/disk"
	"corncrib/needle"
	"corncrib/vol"
)

// store is what a volume promises to have: what was told without an error.
type store struct {
	made   bool
	gen    int
	epoch  int
	sealed bool
	l      map[uint64]api.Needle
}

func (s store) with(n api.Needle) store {
	s.l = maps.Clone(s.l)
	s.l[n.Key] = n
	return s
}

// act is one call, and what there is behind it.
type act struct {
	why string
	do  func(d *disk.Disk, v *vol.Vol) (*vol.Vol, error)
	to  func(s store) store
}

func put(n api.Needle) act {
	return act{fmt.Sprint("Put ", n.Key), func(d *disk.Disk, v *vol.Vol) (*vol.Vol, error) { return v, v.Put(n) },
		func(s store) store { return s.with(n) }}
}

func del(key uint64) act {
	return act{fmt.Sprint("Del ", key), func(d *disk.Disk, v *vol.Vol) (*vol.Vol, error) { return v, v.Del(key, uint32(key)+100) },
		func(s store) store { return s.with(dead(key)) }}
}

func lay(n api.Needle) act {
	return act{fmt.Sprint("Lay ", n.Key), func(d *disk.Disk, v *vol.Vol) (*vol.Vol, error) { return v, v.Lay(n) },
		func(s store) store { return s.with(n) }}
}

func set(epoch int, sealed bool) act {
	return act{fmt.Sprint("Set ", epoch, sealed), func(d *disk.Disk, v *vol.Vol) (*vol.Vol, error) { return v, v.Set(epoch, sealed) },
		func(s store) store { s.epoch, s.sealed = epoch, sealed; return s }}
}

var make3 = act{"Make", func(d *disk.Disk, v *vol.Vol) (*vol.Vol, error) { return vol.Make(d, 3, plenty, 5) },
	func(s store) store { return store{true, 1, 5, false, map[uint64]api.Needle{}} }}

var open3 = act{"Open", func(d *disk.Disk, v *vol.Vol) (*vol.Vol, error) {
	w, e := vol.Open(d, 3, plenty)
	if e != nil {
		w = v
	}
	return w, e
}, func(s store) store { return s }}

// checkpoint writes one as it is now.
var checkpoint = act{"checkpoint", func(d *disk.Disk, v *vol.Vol) (*vol.Vol, error) {
	c := v.Snapshot()
	name := fmt.Sprintf("c3.%d", c.Gen)
	return v, errors.Join(d.Create("c3.0"), d.Append("c3.0", []byte(point(3, c.Gen, c.Upto, c.L...))), d.Sync("c3.0"), d.Rename("c3.0", name), d.SyncNames())
}, func(s store) store { return s }}

// commit compacts the volume.
var commit = act{"Commit", func(d *disk.Disk, v *vol.Vol) (*vol.Vol, error) {
	gen := v.Info().Gen + 1
	b := []byte(super(3, gen))
	l := v.Keys(0, 9999)
	for i, p := range l {
		raw, e := v.Raw(p)
		if e != nil {
			return v, e
		}
		l[i].Off = len(b)
		b = append(b, raw...)
	}
	name := fmt.Sprint("v3.", gen)
	if e := errors.Join(d.Create(name), d.Append(name, b), d.Sync(name)); e != nil {
		return v, e
	}
	return v, v.Commit(l, len(b))
}, func(s store) store { s.gen++; return s }}

// lives are what is done one behind the other.
var lives = [][]act{
	{make3, put(blob(7, 5)), put(blob(8, 0)), del(7), put(blob(9, 40))},
	{make3, put(blob(7, 5)), set(6, true), lay(blob(8, 9)), lay(dead(7)), lay(dead(4)), set(6, false), del(8), open3, put(blob(5, 1))},
	{make3, put(blob(7, 5)), put(blob(8, 5)), del(7), commit, put(blob(9, 3)), del(8), commit, open3, put(blob(6, 6))},
	{make3, put(blob(7, 5)), checkpoint, put(blob(8, 5)), del(7), open3, put(blob(9, 5)), commit, checkpoint, open3, put(blob(4, 4)), set(9, true), open3},
}

// live does acts on a disk that is armed: what is promised behind them, what may
// be there as well, as the last act wasn't told without an error, and how many
// acts were done.
func live(t *testing.T, acts []act, deeds int) (d *disk.Disk, sure, may store, done int) {
	t.Helper()
	d, e := disk.New(plenty)
	must(t, e, d.Arm(deeds))
	var v *vol.Vol
	for i, a := range acts {
		may = a.to(sure)
		if v, e = a.do(d, v); e != nil {
			if !errors.Is(e, api.ErrDown) {
				t.Fatalf("P9.4: %s with %d deeds: %v", a.why, deeds, e)
			}
			return d, sure, may, i
		}
		sure = may
	}
	return d, sure, may, len(acts)
}

// same tells whether a volume has just what it promises.
func (s store) same(v *vol.Vol) bool {
	i := v.Info()
	if i.Gen != s.gen || i.Epoch != s.epoch || i.Sealed != s.sealed || i.Live+i.Gone != len(s.l) {
		return false
	}
	for key, n := range s.l {
		got, e := v.Get(key, n.Cookie)
		if n.Gone && e != error(api.ErrGone) || !n.Gone && (e != nil || !needle.Same(got, n)) {
			return false
		}
	}
	return true
}

// there opens the volume behind a crash: it has what is sure, or what may be.
func there(t *testing.T, why string, d *disk.Disk, sure, may store) *vol.Vol {
	t.Helper()
	v, e := vol.Open(d, 3, plenty)
	if !sure.made && e == error(api.ErrNone) {
		return nil
	}
	if e != nil || !(sure.made && sure.same(v)) && !may.same(v) {
		t.Fatalf("%s: Open: %v, %+v, %v, %q; want %+v or %+v", why, e, v.Info(), v.Keys(0, 99), files(d), sure, may)
	}
	return v
}

// goesOn asks that a volume that was opened behind a crash takes what is written,
// and has it behind the next crash, and that nothing of the elder life is left.
func goesOn(t *testing.T, why string, d *disk.Disk, v *vol.Vol, picks disk.Picks) {
	t.Helper()
	before := v.Snapshot()
	must(t, v.Lay(blob(77, 7)), v.Lay(dead(78)))
	must(t, d.Crash(picks))
	w, e := vol.Open(d, 3, plenty)
	if e != nil || w.Info().Live+w.Info().Gone != len(before.L)+2 {
		t.Fatalf("%s, and two lays, and a crash: %v, %v; want two more than %v", why, e, w.Keys(0, 99), before.L)
	}
	gets(t, why, w, blob(77, 7))
	refuses(t, why, w, 78, 178, api.ErrGone)
	for _, name := range d.Names() {
		if gen := w.Info().Gen; !slices.Contains([]string{"m3", fmt.Sprint("v3.", gen), fmt.Sprint("c3.", gen)}, name) {
			t.Errorf("%s: %s is left", why, name)
		}
	}
}

// all tells picks of all kinds: of names so many, of each file so many bytes.
func all(names, keep int, turn byte) disk.Picks {
	return disk.Picks{Names: names, Files: slices.Repeat([]disk.Pick{{Keep: keep, Turn: turn}}, 40)}
}

func TestItFollows(t *testing.T) {
	for i, acts := range lives {
		for deeds, done := 0, 0; done < len(acts); deeds++ {
			for names := range 8 {
				for _, keep := range []int{0, 1, 15, 16, 23, 24, 31, 32, 33, 39, 40, 1000} {
					for _, turn := range []byte{0, 1, 255} {
						d, sure, may, n := live(t, acts, deeds)
						done = n
						picks := all(names, keep, turn)
						must(t, d.Crash(picks))
						why := fmt.Sprintf("P9.4: life %d, %d deeds, picks %d, %d, %d", i, deeds, names, keep, turn)
						if v := there(t, why, d, sure, may); v != nil {
							goesOn(t, why, d, v, picks)
						}
					}
				}
			}
		}
	}
}

// It may crash while it is opened, too, again and again.
func TestCrashesOfOpen(t *testing.T) {
	for i, acts := range lives {
		for deeds, done := 0, 0; done < len(acts); deeds++ {
			for opening := range 6 {
				for names := range 6 {
					d, sure, may, n := live(t, acts, deeds)
					done = n
					must(t, d.Crash(all(names, 20, 1)))
					why := fmt.Sprintf("P9.4: life %d, %d deeds, %d names, Open with %d", i, deeds, names, opening)
					for range 2 {
						must(t, d.Arm(opening))
						if _, e := vol.Open(d, 3, plenty); e != nil && !errors.Is(e, api.ErrDown) && !errors.Is(e, api.ErrNone) {
							t.Fatalf("%s: %v", why, e)
						}
						must(t, d.Crash(all(names, 20, 1)))
					}
					if v := there(t, why, d, sure, may); v != nil {
						goesOn(t, why, d, v, disk.Picks{})
					}
				}
			}
		}
	}
}

// A crash without an end of the disk's deeds, too, behind each act.
func TestCrashesBehindEachAct(t *testing.T) {
	for i, acts := range lives {
		for n := range acts {
			for names := range 4 {
				d, sure, _, _ := live(t, acts[:n+1], 1000)
				must(t, d.Crash(all(names, 1000, 255)))
				why := fmt.Sprintf("P9.4: life %d, %d acts, %d names", i, n+1, names)
				goesOn(t, why, d, there(t, why, d, sure, sure), disk.Picks{})
			}
		}
	}
}

// The chapter's example.
func TestExample(t *testing.T) {
	d := sure(disk.New(1 << 20))
	v, e := vol.Make(d, 3, 1<<20, 0)
	must(t, e, v.Put(api.Needle{Key: 7, Cookie: 9, Data: []byte("maize")}), d.Crash(disk.Picks{}))
	v, e = vol.Open(d, 3, 1<<20)
	is(t, "P9.4: Make, Put, a crash, Open", e, 0)
	gets(t, "P9.4: Make, Put, a crash, Open", v, api.Needle{Key: 7, Cookie: 9, Data: []byte("maize")})
}
