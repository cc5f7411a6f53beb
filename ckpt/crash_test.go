package ckpt_test

import (
	"errors"
	"fmt"
	"slices"
	"strings"
	"testing"

	"corncrib/api"
	"corncrib/check"
	"corncrib/ckpt"
	"corncrib/disk"
	"corncrib/vol"
)

// world is a volume on a disk, and its writers.
type world struct {
	d    *disk.Disk
	v    *vol.Vol
	w    map[byte]*ckpt.Writer
	last uint64 // the key that was put last
}

// do does an act of a life, which is a text of them: P is a put, D the deletion
// of what was put last, L and G lay a blob and that one is gone, S is a Set, C a
// compaction, O opening, a and b are a step of a writer, A and B the first one of
// a new writer.
func (w *world) do(act byte, i int) error {
	key := uint64(i)
	switch act {
	case 'P':
		w.last = key
		return w.v.Put(blob(key, i))
	case 'D':
		return w.v.Del(w.last, uint32(w.last)+100)
	case 'L':
		return w.v.Lay(blob(key, 9))
	case 'G':
		return w.v.Lay(dead(key))
	case 'S':
		return w.v.Set(w.v.Info().Epoch+1, false)
	case 'C':
		return compacted(w.d, w.v)
	case 'O':
		v, e := vol.Open(w.d, 3, plenty)
		if e == nil {
			w.v = v
		}
		return e
	case 'A', 'B':
		act += 'a' - 'A'
		w.w[act] = sure(ckpt.New(w.d, w.v))
	}
	_, e := w.w[act].Step()
	if errors.Is(e, api.ErrDown) {
		return e
	}
	// It may be stale, or without its draft, or over: other acts go on.
	return nil
}

func isStep(act byte) bool {
	return strings.IndexByte("ABab", act) >= 0
}

func newWorld(t *testing.T) *world {
	t.Helper()
	d, v := begun(t, blob(100, 5), blob(101, 3))
	return &world{d: d, v: v, w: map[byte]*ckpt.Writer{}}
}

// images tells what the volume is behind each act of a life without the writers.
func images(t *testing.T, life string) []image {
	t.Helper()
	w := newWorld(t)
	l := []image{seen(w.v)}
	for i := range len(life) {
		if !isStep(life[i]) {
			must(t, w.do(life[i], i))
		}
		l = append(l, seen(w.v))
	}
	return l
}

// live does a life on a disk that is down behind so many deeds, and tells how
// many acts were done.
func live(t *testing.T, life string, deeds int) (*world, int) {
	t.Helper()
	w := newWorld(t)
	must(t, w.d.Arm(deeds))
	for i := range len(life) {
		if e := w.do(life[i], i); e != nil {
			if !errors.Is(e, api.ErrDown) {
				t.Fatalf("P10.3: act %d of %s, %d deeds: %v", i, life, deeds, e)
			}
			return w, i
		}
	}
	return w, len(life)
}

// lives have crashes at all places.
var lives = []string{
	"PAaaaaP",                      // a checkpoint, and work around it
	"AaaaaPAaaaaPDAaaaa",           // one behind the other
	"PAPaDaPaLaGP",                 // work between all steps
	"ASaSaSaSaSP",                  // the manifest between all steps
	"AaPAaaPAaaaPAaaaaP",           // drafts that were left
	"PCAaaaaPCAaaaaP",              // of later generations
	"AaaaaCPaAaaaa",                // the checkpoint that a compaction removes
	"PACaPAaCaPAaaCaPAaaaCaPAaaaa", // a compaction between any two steps
	"PABaPbPaPbaPbabP",             // two writers between each other
	"PAaBbPabPabbaP",               // one that removes the other's draft
	"PAaBPaaPbbP",                  // one that takes the other's draft
	"AaaBCbaPAaaaaP",               // two that are stale
	"AaaOPaAaaaaOP",                // opened between steps
	"PAaaaaPPDAaaPGO",              // opened with a checkpoint
}

// as opens the volume behind a crash: it is as without the checkpoint.
func as(t *testing.T, why string, d *disk.Disk, l []image, done int) *vol.Vol {
	t.Helper()
	v, e := vol.Open(d, 3, plenty)
	if e != nil {
		t.Fatalf("%s: Open: %v", why, e)
	}
	// Of an act that wasn't told all may be there, or nothing.
	if got := seen(v); !got.same(l[done]) && !got.same(l[min(done+1, len(l)-1)]) {
		t.Fatalf("%s: Open: %+v; want %+v", why, got, l[done:min(done+2, len(l))])
	}
	opens(t, why, d, seen(v))
	tidy(t, why, d, v)
	return v
}

// tidy asks that there are the volume's files, its checkpoint maybe, and no more.
func tidy(t *testing.T, why string, d *disk.Disk, v *vol.Vol) {
	t.Helper()
	_, file, data := names(v)
	for _, name := range d.Names() {
		if !slices.Contains([]string{"m3", file, data}, name) {
			t.Errorf("%s: %s is left", why, name)
		}
	}
	text, there := files(d)[file]
	if !there {
		return
	}
	if c, e := check.Get([]byte(text)); e == nil && (c.Volume != 3 || c.Gen != v.Info().Gen || c.Upto > v.Info().Size) {
		t.Errorf("%s: the checkpoint is %+v", why, c)
	}
}

// goesOn asks that work goes on behind a crash, with checkpoints.
func goesOn(t *testing.T, why string, d *disk.Disk, v *vol.Vol, picks disk.Picks) {
	t.Helper()
	must(t, v.Lay(blob(200, 7)), v.Lay(dead(201)))
	text := point(v)
	is(t, why+", and Write", ckpt.Write(d, v), 0)
	must(t, v.Put(blob(202, 2)))
	w := ahead(t, d, v, 2)
	must(t, d.Crash(picks))
	want := seen(v)
	opens(t, why+", and a crash", d, want)
	tidy(t, why+", and a crash", d, v)
	_, file, _ := names(v)
	if got := files(d)[file]; got != text {
		t.Errorf("%s: the checkpoint behind it is %q; want %q", why, got, text)
	}
	told(t, why+", a writer behind all", w, false, api.ErrNone)
}

func TestItFollows(t *testing.T) {
	for _, life := range lives {
		l := images(t, life)
		for deeds, done := 0, 0; done < len(life); deeds++ {
			for names := range 6 {
				for _, p := range []disk.Pick{{}, {Keep: 1}, {Keep: 24, Turn: 255}, {Keep: 47, Turn: 1}, {Keep: 72}, {Keep: 96}, {Keep: 1000}, {Keep: 1000, Turn: 1}} {
					w, n := live(t, life, deeds)
					done = n
					picks := every(names, p)
					must(t, w.d.Crash(picks))
					why := fmt.Sprintf("P10.3: life %s, %d deeds, %d of names picked, %v", life, deeds, names, p)
					goesOn(t, why, w.d, as(t, why, w.d, l, n), picks)
				}
			}
		}
	}
}

// Opening may crash, too, again and again.
func TestCrashesOfOpen(t *testing.T) {
	for _, life := range lives {
		l := images(t, life)
		for deeds, done := 0, 0; done < len(life); deeds++ {
			for opening := range 4 {
				for names := range 5 {
					w, n := live(t, life, deeds)
					done = n
					picks := every(names, disk.Pick{Keep: 60, Turn: 2})
					must(t, w.d.Crash(picks))
					why := fmt.Sprintf("P10.3: life %s, %d deeds, %d of names picked, Open with %d", life, deeds, names, opening)
					for range 2 {
						must(t, w.d.Arm(opening))
						if _, e := vol.Open(w.d, 3, plenty); e != nil && !errors.Is(e, api.ErrDown) {
							t.Fatalf("%s: %v", why, e)
						}
						must(t, w.d.Crash(picks))
					}
					goesOn(t, why, w.d, as(t, why, w.d, l, n), picks)
				}
			}
		}
	}
}

// A checkpoint that is right is what opening begins with: what stands ahead of
// its end isn't read, what stands behind it is.
func TestOpenWithTheCheckpoint(t *testing.T) {
	for kind := range kinds {
		for _, more := range []int{0, 1, 3} {
			why := fmt.Sprintf("P10.3: of a volume %s, and %d lays", kind, more)
			d, v := kinds[kind](t)
			w := ahead(t, d, v, 5)
			for i := range more {
				must(t, v.Lay(blob(uint64(300+i), 9*i)))
			}
			want := seen(v)
			_, _, data := names(v)
			must(t, d.Crash(disk.Picks{}))
			opens(t, why, d, want)
			for off := 16; off < w.Upto(); off += 1 + w.Upto()/9 {
				must(t, d.Spoil(data, off, 255))
				o, e := vol.Open(d, want.i.Number, plenty)
				must(t, e)
				if got := seen(o); !got.same(want) {
					t.Errorf("%s, byte %d spoilt: %+v; want %+v", why, off, got, want)
				}
				must(t, d.Spoil(data, off, 255))
			}
		}
	}
}

// Of a checkpoint that is cut, or turned, opening takes nothing.
func TestOpenWithATornCheckpoint(t *testing.T) {
	l := []api.Needle{blob(7, 5), blob(8, 9), dead(7)}
	d, v := begun(t, l...)
	is(t, "P10.2: Write", ckpt.Write(d, v), 0)
	must(t, v.Put(blob(9, 5)))
	want, text := seen(v), files(d)["c3.1"]
	for bit := range 8 * len(text) {
		must(t, d.Spoil("c3.1", bit/8, 1<<(bit%8)))
		opens(t, fmt.Sprintf("P10.3: bit %d of the checkpoint turned", bit), d, want)
		must(t, d.Spoil("c3.1", bit/8, 1<<(bit%8)))
	}
	for n := range len(text) {
		must(t, d.Cut("c3.1", len(text)-1-n))
		opens(t, fmt.Sprintf("P10.3: the checkpoint cut by %d", n+1), d, want)
	}
	// So is one that a crash cuts or turns, as it was never synced; the whole one
	// is as good as any.
	for keep := range len(text) + 1 {
		for _, turn := range []byte{0, 1, 255} {
			d, v := begun(t, l...)
			ahead(t, d, v, 2)
			must(t, v.Put(blob(9, 5)), d.Rename("c3.0", "c3.1"), d.SyncNames(), d.Crash(every(0, disk.Pick{Keep: keep, Turn: turn})))
			why := fmt.Sprintf("P10.3: %d bytes of the checkpoint, turned by %d", keep, turn)
			if got := files(d)["c3.1"]; got != torn(text, disk.Pick{Keep: keep, Turn: turn}) {
				t.Fatalf("%s: %q", why, got)
			}
			v = opens(t, why, d, want)
			is(t, why+", and Write", ckpt.Write(d, v), 0)
			if got := files(d)["c3.1"]; got != point(v) {
				t.Errorf("%s, and Write: %q", why, got)
			}
		}
	}
}
