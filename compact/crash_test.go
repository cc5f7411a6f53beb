package compact_test

import (
	"errors"
	"fmt"
	"strings"
	"testing"

	"corncrib/api"
	"corncrib/ckpt"
	"corncrib/compact"
	"corncrib/disk"
	"corncrib/vol"
)

// world is a volume on a disk, and its compactors.
type world struct {
	d    *disk.Disk
	v    *vol.Vol
	c    map[byte]*compact.Compactor
	last uint64 // the key that was put last
}

// do does an act of a life, which is a text of them: P is a put, D the deletion of
// what was put last, E of what was there first, L and G lay a blob and that one is
// gone, S is a Set, K a checkpoint, O opening, R a Run, a and b are a step of a
// compactor, A and B the first one of a new compactor, Z all steps of a.
func (w *world) do(act byte, i int) error {
	key := uint64(i)
	switch act {
	case 'P':
		w.last = key
		return w.v.Put(blob(key, i))
	case 'D':
		return w.v.Del(w.last, uint32(w.last)+100)
	case 'E':
		return w.v.Del(200, 300)
	case 'L':
		return w.v.Lay(blob(key, 9))
	case 'G':
		return w.v.Lay(dead(key))
	case 'S':
		return w.v.Set(w.v.Info().Epoch+1, false)
	case 'K':
		return ckpt.Write(w.d, w.v)
	case 'O':
		v, e := vol.Open(w.d, 3, api.MaxFile)
		if e == nil {
			w.v = v
			// Who opens anew has the elder object no more, and what it began.
			clear(w.c)
		}
		return e
	case 'R':
		return compact.Run(w.d, w.v)
	}
	return w.step(act)
}

// step does steps of a compactor. It may be stale, or without its file, or over:
// other acts go on.
func (w *world) step(act byte) error {
	if act == 'A' || act == 'B' {
		act += 'a' - 'A'
		w.c[act] = sure(compact.New(w.d, w.v))
	}
	all := act == 'Z'
	if all {
		act = 'a'
	}
	for {
		done, e := w.c[act].Step()
		if errors.Is(e, api.ErrDown) {
			return e
		}
		if done || e != nil || !all {
			return nil
		}
	}
}

func isStep(act byte) bool {
	return strings.IndexByte("ABabZR", act) >= 0
}

func newWorld(t *testing.T) *world {
	t.Helper()
	d, v := begun(t, blob(200, 5), blob(201, 3), dead(201))
	return &world{d: d, v: v, c: map[byte]*compact.Compactor{}}
}

// images tells what the volume has behind each act of a life without compactors.
func images(t *testing.T, life string) []image {
	t.Helper()
	w := newWorld(t)
	l := []image{seen(w.v).content()}
	for i := range len(life) {
		if !isStep(life[i]) {
			must(t, w.do(life[i], i))
		}
		l = append(l, seen(w.v).content())
	}
	return l
}

// live does a life on a disk that is down behind so many deeds, and tells how
// many acts were done.
func live(t *testing.T, life string, deeds int) (*world, int) {
	t.Helper()
	w := newWorld(t)
	must(t, w.d.Arm(deeds))
	for i := range len(life) {
		if e := w.do(life[i], i); e != nil {
			if !errors.Is(e, api.ErrDown) {
				t.Fatalf("P11.3: act %d of %s, %d deeds: %v", i, life, deeds, e)
			}
			return w, i
		}
	}
	return w, len(life)
}

// lives have crashes at all places.
var lives = []string{
	"PAZP",               // a compaction, and work around it
	"RPRPDR",             // one behind the other
	"PAPaDaPaLaGaP",      // work between all steps
	"ASaSaSaSaS",         // the manifest between all steps
	"AaaEaZP",            // what was copied is gone: all is copied anew
	"AaEaZPDR",           // what was copied last is gone
	"AEaaaP",             // what wasn't copied yet is gone
	"AaPAaaPAaaaPAZ",     // files that were left
	"KPAaKaaKPO",         // checkpoints beside
	"AaKRaPKO",           // stale, and a checkpoint behind
	"PABaabbabP",         // two compactors between each other
	"PAaaBaPbaabbaP",     // one that begins anew what the other one wrote
	"AaRaPBRbP",          // two that are stale
	"AaOPAaaaO",          // opened between steps
	"PRPOPDRGORO",        // opened behind each
	"AaPEaSaLaGaPKZPDKO", // all of it
}

// as opens the volume behind a crash: it has what it has without the compactors.
func as(t *testing.T, why string, d *disk.Disk, l []image, done int) *vol.Vol {
	t.Helper()
	v, e := vol.Open(d, 3, api.MaxFile)
	if e != nil {
		t.Fatalf("%s: Open: %v", why, e)
	}
	// Of an act that wasn't told all may be there, or nothing.
	if got := seen(v).content(); !got.same(l[done]) && !got.same(l[min(done+1, len(l)-1)]) {
		t.Fatalf("%s: Open: %+v; want %+v", why, got, l[done:min(done+2, len(l))])
	}
	return opens(t, why, d, seen(v))
}

// goesOn asks that work goes on behind a crash, with compactions.
func goesOn(t *testing.T, why string, d *disk.Disk, v *vol.Vol, p disk.Picks) {
	t.Helper()
	must(t, v.Lay(blob(300, 7)), v.Lay(dead(301)))
	gen := v.Info().Gen
	is(t, why+", and Run", compact.Run(d, v), 0)
	if i := v.Info(); i.Gen != gen+1 || i.Size != compact.Least(v) {
		t.Errorf("%s, and Run: %+v, Least %d", why, i, compact.Least(v))
	}
	must(t, v.Put(blob(302, 2)))
	c := ahead(t, d, v, 2)
	want := seen(v)
	must(t, d.Crash(p))
	opens(t, why+", and a crash", d, want)
	told(t, why+", a compactor behind all", c, false, api.ErrNone)
}

func TestItFollows(t *testing.T) {
	for _, life := range lives {
		l := images(t, life)
		for deeds, done := 0, 0; done < len(life); deeds++ {
			for names := range 6 {
				for _, p := range []disk.Pick{{}, {Keep: 1}, {Keep: 16, Turn: 255}, {Keep: 24}, {Keep: 56, Turn: 1}, {Keep: 1000}, {Keep: 1000, Turn: 1}} {
					w, n := live(t, life, deeds)
					done = n
					picks := every(names, p)
					must(t, w.d.Crash(picks))
					why := fmt.Sprintf("P11.3: life %s, %d deeds, %d of names picked, %v", life, deeds, names, p)
					goesOn(t, why, w.d, as(t, why, w.d, l, n), picks)
				}
			}
		}
	}
}

// Opening may crash, too, again and again.
func TestCrashesOfOpen(t *testing.T) {
	for _, life := range lives {
		l := images(t, life)
		for deeds, done := 0, 0; done < len(life); deeds++ {
			for opening := range 4 {
				for names := range 3 {
					w, n := live(t, life, deeds)
					done = n
					picks := every(2*names, disk.Pick{Keep: 60, Turn: 2})
					must(t, w.d.Crash(picks))
					why := fmt.Sprintf("P11.3: life %s, %d deeds, %d of names picked, Open with %d", life, deeds, 2*names, opening)
					for range 2 {
						must(t, w.d.Arm(opening))
						if _, e := vol.Open(w.d, 3, plenty); e != nil && !errors.Is(e, api.ErrDown) {
							t.Fatalf("%s: %v", why, e)
						}
						must(t, w.d.Crash(picks))
					}
					goesOn(t, why, w.d, as(t, why, w.d, l, n), picks)
				}
			}
		}
	}
}

// Behind a life without a crash all is there, too, and of the least size where it
// ended with a compaction.
func TestLives(t *testing.T) {
	for _, life := range lives {
		w, n := live(t, life, 1<<20)
		if n != len(life) {
			t.Fatalf("P11.3: life %s: %d acts", life, n)
		}
		keeps(t, "P11.3: life "+life, w.v, image{w.v.Info(), w.v.Keys(0, 999)})
		if got, want := seen(w.v).content(), images(t, life)[n]; !got.same(want) {
			t.Errorf("P11.3: life %s: %+v; want %+v", life, got, want)
		}
		if end := life[n-1]; (end == 'R' || end == 'Z') && w.v.Info().Size != compact.Least(w.v) {
			t.Errorf("P11.3: life %s: size %d, Least %d", life, w.v.Info().Size, compact.Least(w.v))
		}
	}
}
