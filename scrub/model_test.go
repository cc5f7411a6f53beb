package scrub_test

import (
	"cmp"
	"fmt"
	"math"
	"slices"
	"strings"
	"testing"

	"corncrib/api"
	"corncrib/compact"
	"corncrib/disk"
	"corncrib/sample"
	"corncrib/scrub"
	"corncrib/vol"
)

// walker is a scrubber as the chapter tells it, word by word: it goes over all
// that the volume has, and takes those behind the last one.
type walker struct {
	begun bool
	last  uint64
	done  bool
	seen  int
	bad   []fault
}

func (w *walker) step(d *disk.Disk, v *vol.Vol, n int) (bool, api.Code) {
	switch {
	case w.done:
		return false, api.ErrDone
	case n < 1:
		return false, api.ErrArg
	}
	for w.done = true; n > 0; n-- {
		rest := slices.DeleteFunc(all(v), func(p api.Pos) bool { return w.begun && p.Key <= w.last })
		if len(rest) == 0 {
			return true, 0
		}
		p := slices.MinFunc(rest, func(a, b api.Pos) int { return cmp.Compare(a.Key, b.Key) })
		w.begun, w.last = true, p.Key
		w.seen++
		w.bad = append(w.bad, found(d, v, p)...)
	}
	w.done = w.last == greatest
	return w.done, 0
}

// found tells what is bad at a position, whatever the disk does.
func found(d *disk.Disk, v *vol.Vol, p api.Pos) []fault {
	switch {
	case d.Down():
		return []fault{{p, api.ErrDown, file(v)}}
	case !slices.Contains(d.Names(), file(v)):
		return []fault{{p, api.ErrNone, file(v)}}
	}
	return faults(d, v, []api.Pos{p})
}

// bench is a volume with scrubbers, each beside a walker.
type bench struct {
	t   *testing.T
	d   *disk.Disk
	v   *vol.Vol
	s   [3]*scrub.Scrubber
	w   [3]*walker
	log []string
}

func newBench(t *testing.T) *bench {
	t.Helper()
	b := &bench{t: t}
	b.d, b.v = begun(t, blob(7, 5), blob(8, 5), dead(7), blob(greatest, 3), blob(0, 12))
	for i := range b.s {
		b.renew(i)
	}
	return b
}

func (b *bench) renew(i int) { b.s[i], b.w[i] = sure(scrub.New(b.v)), &walker{} }

func (b *bench) why() string { return strings.Join(b.log[max(0, len(b.log)-25):], ", ") }

// say notes a call, and what came of it, if somebody wants to know.
func (b *bench) say(what string, x ...any) { b.log = append(b.log, what+fmt.Sprint(x...)) }

// step does a step of a scrubber.
func (b *bench) step(i, n int) {
	b.t.Helper()
	i0, l := b.v.Info(), all(b.v)
	done, code := b.w[i].step(b.d, b.v, n)
	b.say(fmt.Sprintf("step %d of %d: ", i, n), done, code)
	told(b.t, b.why(), b.s[i], n, done, code)
	if b.v.Info() != i0 || !slices.Equal(all(b.v), l) {
		b.t.Fatalf("P12.1: %s: the volume is another one", b.why())
	}
}

// look looks at a place, be it one of the volume's or not.
func (b *bench) look(which, how int) {
	b.t.Helper()
	p := api.Pos{Key: uint64(which), Off: how, Len: which, Cookie: uint32(which) + 100}
	if l := all(b.v); len(l) > 0 {
		p = l[which%len(l)]
	}
	switch how % 8 {
	case 1:
		p.Key++
	case 2:
		p.Cookie--
	case 3:
		p.Gone = !p.Gone
	case 4:
		p.Len += how%16 - 8
	case 5:
		p.Off += how%64 - 32
	}
	code, name := api.Code(0), file(b.v)
	for _, f := range found(b.d, b.v, p) {
		code = f.code
	}
	b.say(fmt.Sprintf("Look at %+v: ", p), code)
	isAt(b.t, "P12.1: "+b.why(), scrub.Look(b.v, p), code, name, p.Off)
}

// whole looks at all; what isn't bad is got, what is bad isn't.
func (b *bench) whole() {
	b.t.Helper()
	w := &walker{}
	w.step(b.d, b.v, math.MaxInt)
	b.say("All: ", w.bad)
	listed(b.t, "P12.2: "+b.why(), sure(scrub.All(b.v)), w.bad)
	for _, p := range all(b.v) {
		bad := slices.ContainsFunc(w.bad, func(f fault) bool { return f.p == p })
		if _, e := b.v.Get(p.Key, p.Cookie); !p.Gone && (e != nil) != bad {
			b.t.Errorf("P12.3: %s: Get(%d): %v", b.why(), p.Key, e)
		}
	}
}

// spoil does something to the volume's file.
func (b *bench) spoil(at, how byte) {
	n, _ := b.d.Size(file(b.v))
	off := n * int(at) / 256
	switch how % 8 {
	case 0:
		b.say("Cut: ", off, b.d.Cut(file(b.v), off))
	case 1:
		b.say("Append: ", b.d.Append(file(b.v), make([]byte, at)))
	case 2:
		b.say("Remove: ", b.d.Remove(file(b.v)))
	default:
		b.say("Spoil: ", off, b.d.Spoil(file(b.v), off, 1<<(how%8)))
	}
}

// fall crashes, and opens, if what is left can be.
func (b *bench) fall(names, keep int, turn byte) {
	b.say("a crash, ", names, b.d.Crash(disk.Picks{Names: names, Files: slices.Repeat([]disk.Pick{{Keep: keep, Turn: turn}}, 99)}))
	v, e := vol.Open(b.d, 3, plenty)
	b.say("Open: ", e)
	if e != nil {
		b.d, v = begun(b.t, blob(3, 4))
	}
	b.v = v
	for i := range b.s {
		b.renew(i)
	}
}

// do does a call of a script.
func (b *bench) do(call []byte) {
	b.t.Helper()
	i, key, size := int(call[1]%3), uint64(call[1]%40), int(call[2]%20)
	if key > 36 {
		key = greatest - (key - 37)
	}
	switch kind := call[0] % 32; {
	case kind < 10:
		b.step(i, int(call[2]%8))
	case kind == 10:
		b.step(i, []int{math.MinInt, -1, 0, 4096, math.MaxInt}[call[2]%5])
	case kind < 15:
		b.say("Put ", key, b.v.Put(blob(key, size)))
	case kind < 17:
		b.say("Del ", key, b.v.Del(key, uint32(key)+100))
	case kind == 17:
		b.say("Lay ", key, b.v.Lay(blob(key, size)))
	case kind == 18:
		b.say("Lay gone ", key, b.v.Lay(dead(key)))
	case kind < 22:
		b.look(int(call[1]), int(call[2]))
	case kind < 24:
		b.whole()
	case kind < 27:
		b.renew(i)
		b.say("a new one ", i)
	case kind == 27 && call[2]%4 == 0:
		b.say("Run: ", compact.Run(b.d, b.v))
	case kind < 30 && call[2]%2 == 0:
		b.spoil(call[1], call[2]/2)
	case kind == 30 && call[2]%8 == 0:
		b.fall(int(call[1]%8), int(call[2]), call[1])
	case kind == 31 && call[2]%8 == 0:
		b.say("Arm: ", b.d.Arm(int(call[1]%20)))
	}
}

// script holds scrubbers against walkers, call by call.
func script(t *testing.T, calls []byte) {
	t.Helper()
	b := newBench(t)
	for ; len(calls) >= 3; calls = calls[3:] {
		b.do(calls[:3])
		for i := range b.s {
			has(t, b.why(), b.s[i], b.w[i].seen, b.w[i].bad)
		}
		if t.Failed() {
			return
		}
	}
	b.whole()
}

func TestAsTheModel(t *testing.T) {
	for i := range 150 {
		script(t, sample.Bytes(1500+i))
	}
}

func FuzzAsTheModel(f *testing.F) {
	f.Add(sample.Bytes(300))
	f.Add([]byte{0, 0, 1, 11, 1, 1, 0, 0, 1, 0, 0, 9, 22, 0, 0})
	f.Fuzz(func(t *testing.T, calls []byte) {
		script(t, calls)
	})
}
