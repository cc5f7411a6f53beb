package compact_test

import (
	"errors"
	"fmt"
	"maps"
	"slices"
	"strings"
	"testing"

	"corncrib/api"
	"corncrib/ckpt"
	"corncrib/compact"
	"corncrib/disk"
	"corncrib/needle"
	"corncrib/sample"
	"corncrib/vol"
)

// stepper is a compactor, or what does the same in other words.
type stepper interface {
	Step() (bool, error)
	Left() int
}

// clerk is a compactor as the chapter tells it, word by word; it keeps the text
// that the file should have.
type clerk struct {
	d     *disk.Disk
	v     *vol.Vol
	begun bool
	over  bool
	gen   int
	text  string
	todo  []api.Pos
	took  []api.Pos
}

func (c *clerk) Left() int { return len(c.todo) }

func (c *clerk) name() string { return fmt.Sprintf("v%d.%d", c.v.Info().Number, c.gen+1) }

func (c *clerk) Step() (bool, error) {
	if c.over {
		return false, api.ErrDone
	}
	done, e := c.next()
	if e != nil && slices.Contains(c.d.Names(), c.name()) && c.v.Info().Gen != c.gen+1 {
		_ = c.d.Remove(c.name())
	}
	if c.over = done || e != nil; c.over {
		c.todo = nil
	}
	return done, e
}

func (c *clerk) next() (bool, error) {
	switch {
	case !c.begun:
		c.begun, c.gen = true, c.v.Info().Gen
		if e := c.create(); e != nil {
			return false, e
		}
		c.todo = places(c.v)
		return false, nil
	case c.gen != c.v.Info().Gen:
		return false, api.ErrStale
	case len(c.todo) > 0:
		p := c.todo[0]
		c.todo = c.todo[1:]
		if !slices.Contains(places(c.v), p) {
			return false, nil
		}
		return false, c.take(p)
	}
	e := c.end()
	return e == nil, e
}

func (c *clerk) create() error {
	if slices.Contains(c.d.Names(), c.name()) {
		if e := c.d.Remove(c.name()); e != nil {
			return e
		}
	}
	if e := c.d.Create(c.name()); e != nil {
		return e
	}
	c.text, c.took = super(c.v.Info().Number, c.gen+1), nil
	return c.d.Append(c.name(), []byte(c.text))
}

func (c *clerk) take(p api.Pos) error {
	b, e := c.v.Raw(p)
	if e != nil && !errors.Is(e, api.ErrShort) {
		return e
	}
	n, _, e := needle.Get(b)
	if e == nil && (api.Pos{Key: n.Key, Off: p.Off, Len: len(n.Data), Cookie: n.Cookie, Gone: n.Gone}) != p {
		e = api.ErrForm
	}
	if e != nil {
		return &api.At{File: fmt.Sprintf("v%d.%d", c.v.Info().Number, c.gen), Off: p.Off, Err: e}
	}
	if e := c.d.Append(c.name(), b); e != nil {
		return e
	}
	c.text += string(b)
	c.took = append(c.took, p)
	return nil
}

func (c *clerk) end() error {
	size, e := c.d.Size(c.name())
	if e != nil {
		return e
	}
	now := places(c.v)
	if string(sure(c.d.Read(c.name(), 0, size))) != c.text {
		// Somebody else was at the file.
		if e := c.create(); e != nil {
			return e
		}
	} else if slices.ContainsFunc(c.took, func(p api.Pos) bool { return !slices.Contains(now, p) }) {
		if e := c.d.Cut(c.name(), 16); e != nil {
			return e
		}
		c.text, c.took = c.text[:16], nil
	}
	for _, p := range now {
		if slices.Contains(c.took, p) {
			continue
		}
		if e := c.take(p); e != nil {
			return e
		}
	}
	if e := c.d.Sync(c.name()); e != nil {
		return e
	}
	return c.v.Commit(stands(c.text), len(c.text))
}

// stands tells where the needles of a file stand.
func stands(text string) []api.Pos {
	var l []api.Pos
	for off := 16; off < len(text); {
		n, size, e := needle.Get([]byte(text[off:]))
		if e != nil {
			panic(e)
		}
		l = append(l, api.Pos{Key: n.Key, Off: off, Len: len(n.Data), Cookie: n.Cookie, Gone: n.Gone})
		off += size
	}
	return l
}

// bench is a volume on a disk, with compactors and a checkpoint's writer.
type bench struct {
	d   *disk.Disk
	v   *vol.Vol
	c   [3]stepper
	w   *ckpt.Writer
	new func(d *disk.Disk, v *vol.Vol) stepper
}

func (b *bench) renew(i int) { b.c[i] = b.new(b.d, b.v) }

// answer is what a call told, in words.
func answer(done bool, e error) string {
	s := fmt.Sprint(done, " ", codeOf(e))
	var at *api.At
	if errors.As(e, &at) {
		s += fmt.Sprint(" at ", at.File, " ", at.Off)
	}
	return s
}

// twins are two of them that get the same calls: one has compactors, one clerks.
type twins struct {
	t    *testing.T
	b    [2]*bench
	log  []string
	down bool // the disks were armed: what a volume has behind a crash isn't sure
}

func newTwins(t *testing.T, l ...api.Needle) *twins {
	t.Helper()
	w := &twins{t: t}
	for i, make := range []func(d *disk.Disk, v *vol.Vol) stepper{
		func(d *disk.Disk, v *vol.Vol) stepper { return sure(compact.New(d, v)) },
		func(d *disk.Disk, v *vol.Vol) stepper { return &clerk{d: d, v: v} },
	} {
		d, v := begun(t, l...)
		w.b[i] = &bench{d: d, v: v, new: make}
		for j := range w.b[i].c {
			w.b[i].renew(j)
		}
		w.b[i].w = sure(ckpt.New(d, v))
	}
	return w
}

func (w *twins) why() string { return strings.Join(w.log[max(0, len(w.log)-25):], ", ") }

// both does a call on both, and asks that both answer alike, and are alike then.
func (w *twins) both(what string, do func(b *bench) (bool, error)) {
	w.t.Helper()
	var told [2]string
	for i, b := range w.b {
		told[i] = answer(do(b))
	}
	w.log = append(w.log, what+": "+told[1])
	if told[0] != told[1] {
		w.t.Fatalf("P11.1: %s; it told %s", w.why(), told[0])
	}
	w.alike()
}

func (w *twins) alike() {
	w.t.Helper()
	one, two := w.b[0], w.b[1]
	for i := range one.c {
		if one.c[i].Left() != two.c[i].Left() {
			w.t.Fatalf("P11.1: %s; Left of %d: %d; want %d", w.why(), i, one.c[i].Left(), two.c[i].Left())
		}
	}
	if !seen(one.v).same(seen(two.v)) || one.d.Down() != two.d.Down() {
		w.t.Fatalf("P11.1: %s; the volume is %+v; want %+v", w.why(), seen(one.v), seen(two.v))
	}
	if compact.Least(one.v) != 16+size(two.v) {
		w.t.Fatalf("P11.2: %s; Least %d; want %d", w.why(), compact.Least(one.v), 16+size(two.v))
	}
	if one.d.Down() {
		return
	}
	if got, want := files(one.d), files(two.d); !maps.Equal(got, want) {
		w.t.Fatalf("P11.1: %s; files %s; want %s", w.why(), brief(got), brief(want))
	}
}

// size tells how many bytes a volume's newest needles have.
func size(v *vol.Vol) int {
	n := 0
	for _, p := range v.Keys(0, api.MaxItems) {
		n += (32 + p.Len + 7) / 8 * 8
	}
	return n
}

// step does a step of a compactor; what the volume has stays.
func (w *twins) step(i int) {
	w.t.Helper()
	was := seen(w.b[0].v)
	w.both(fmt.Sprint("step of ", i), func(b *bench) (bool, error) { return b.c[i].Step() })
	if now := seen(w.b[0].v); !now.content().same(was.content()) || now.i.Gen != was.i.Gen && now.i.Size != compact.Least(w.b[0].v) {
		w.t.Fatalf("P11.3: %s; %+v; was %+v", w.why(), now, was)
	}
}

// fall crashes, and opens.
func (w *twins) fall(p disk.Picks) {
	w.t.Helper()
	was := seen(w.b[0].v).content()
	w.both(fmt.Sprintf("a crash, %d names", p.Names), func(b *bench) (bool, error) { return false, b.d.Crash(p) })
	w.both("Open", func(b *bench) (bool, error) {
		v, e := vol.Open(b.d, 3, api.MaxFile)
		if e == nil {
			b.v = v
		}
		for i := range b.c {
			b.renew(i)
		}
		b.w = sure(ckpt.New(b.d, b.v))
		return false, e
	})
	if now := seen(w.b[0].v).content(); !w.down && !now.same(was) {
		w.t.Fatalf("P11.3: %s; %+v; was %+v", w.why(), now, was)
	}
	w.down = false
}

// touch does something to a file; what is spoilt is turned back by the same call.
func (w *twins) touch(call []byte) {
	w.t.Helper()
	w.both("a touch", func(b *bench) (bool, error) {
		data, next, _ := names(b.v)
		n, _ := b.d.Size(next)
		switch call[2] % 6 {
		case 0:
			return false, b.d.Append(next, call[1:3])
		case 1:
			return false, b.d.Cut(next, n*int(call[1])/256)
		case 2:
			return false, b.d.Remove(next)
		case 3:
			return false, b.d.Spoil(next, n*int(call[1])/256, 1)
		case 4:
			e := b.d.Spoil(data, b.v.Info().Size*int(call[1])/256, 4)
			_, _ = b.c[call[1]%3].Step()
			return false, errors.Join(e, b.d.Spoil(data, b.v.Info().Size*int(call[1])/256, 4))
		}
		return false, b.d.Sync(next)
	})
}

// do does a call of a script.
func (w *twins) do(call []byte) {
	w.t.Helper()
	i, key := int(call[1]%3), uint64(call[1]%40)
	put := func(n api.Needle) func(b *bench) (bool, error) {
		return func(b *bench) (bool, error) { return false, b.v.Lay(n) }
	}
	switch kind := call[0] % 32; {
	case kind < 16:
		w.step(i)
	case kind < 19:
		w.both(fmt.Sprint("Put ", key), func(b *bench) (bool, error) { return false, b.v.Put(blob(key, int(call[2]%20))) })
	case kind < 22:
		w.both(fmt.Sprint("Del ", key), func(b *bench) (bool, error) { return false, b.v.Del(key, uint32(key)+100) })
	case kind == 22:
		w.both(fmt.Sprint("Lay gone ", key), put(dead(key)))
	case kind == 23:
		w.both(fmt.Sprint("Lay ", key), put(blob(key, int(call[2]%20))))
	case kind == 24:
		w.both("Set", func(b *bench) (bool, error) {
			return false, b.v.Set(b.v.Info().Epoch+int(call[2]%2), call[2]%5 == 0)
		})
	case kind == 25 && call[2]%4 == 0:
		if !w.down && w.b[0].d.Used() < plenty/2 {
			w.both("Commit by hand", func(b *bench) (bool, error) { return false, byHand(b.d, b.v) })
		}
	case kind < 28:
		w.both(fmt.Sprint("a new one ", i), func(b *bench) (bool, error) { b.renew(i); return false, nil })
	case kind == 28:
		w.both("a step of the writer", func(b *bench) (bool, error) {
			done, e := b.w.Step()
			if done || e != nil {
				b.w = sure(ckpt.New(b.d, b.v))
			}
			return done, e
		})
	case kind == 29 && call[2]%4 == 0:
		w.touch(call)
	case kind == 30 && call[2]%4 == 0:
		w.fall(every(int(call[1]%8), disk.Pick{Keep: int(call[2]), Turn: call[1]}))
	case kind == 31 && call[2]%4 == 0:
		w.down = true
		w.both("Arm", func(b *bench) (bool, error) { return false, b.d.Arm(int(call[1] % 40)) })
	}
	if w.b[0].d.Down() {
		w.fall(every(int(call[1]%8), disk.Pick{Keep: int(call[2]), Turn: call[1]}))
	}
}

// script holds compactors against clerks, call by call.
func script(t *testing.T, calls []byte) {
	t.Helper()
	w := newTwins(t, blob(7, 5), blob(8, 5), dead(7))
	for ; len(calls) >= 3; calls = calls[3:] {
		w.do(calls[:3])
	}
	w.fall(disk.Picks{})
}

func TestAsTheModel(t *testing.T) {
	for i := range 150 {
		script(t, sample.Bytes(900+i))
	}
}

func FuzzAsTheModel(f *testing.F) {
	f.Add(sample.Bytes(300))
	f.Add([]byte{0, 0, 0, 0, 1, 2, 20, 7, 0, 0, 0, 0, 0, 1, 0, 0, 0, 0, 0, 0, 0, 0, 1, 0, 0, 0, 0, 0, 0, 0})
	f.Fuzz(func(t *testing.T, calls []byte) {
		script(t, calls)
	})
}

// orders tells all orders in which two may do so many steps each.
func orders(a, b int) []string {
	if a+b == 0 {
		return []string{""}
	}
	var l []string
	if a > 0 {
		for _, s := range orders(a-1, b) {
			l = append(l, "0"+s)
		}
	}
	if b > 0 {
		for _, s := range orders(a, b-1) {
			l = append(l, "1"+s)
		}
	}
	return l
}

// Two compactors of one volume, in each order: the copies have one size, so that
// what one of them wrote may be taken for the other one's. All is there behind
// each step, and what is done first is whole.
func TestTwoCompactors(t *testing.T) {
	for _, order := range orders(5, 5) {
		for _, work := range []func(v *vol.Vol, i int) error{
			func(v *vol.Vol, i int) error { return nil },
			func(v *vol.Vol, i int) error { return v.Put(blob(uint64(50+i), 5)) },
			func(v *vol.Vol, i int) error {
				if i == 3 {
					return v.Del(7, 107)
				}
				return nil
			},
			func(v *vol.Vol, i int) error {
				if i == 5 {
					return v.Del(9, 109)
				}
				return nil
			},
		} {
			w := newTwins(t, blob(9, 5), blob(7, 5), blob(8, 5))
			for i, c := range order {
				w.step(int(c - '0'))
				for _, b := range w.b {
					must(t, work(b.v, i))
				}
			}
			for range 9 {
				w.step(0)
				w.step(1)
			}
			v := w.b[0].v
			keeps(t, "P11.3: compactors "+order, v, seen(v))
			if v.Info().Gen < 2 {
				t.Errorf("P11.3: compactors %s: none was done", order)
			}
			w.fall(disk.Picks{})
			keeps(t, "P11.3: compactors "+order+", and Open", w.b[0].v, seen(w.b[0].v))
		}
	}
}

// Whenever it crashes between two compactors' steps the volume opens as without
// them.
func TestCrashBetweenTwoCompactors(t *testing.T) {
	for _, order := range orders(5, 5) {
		for n := range len(order) + 1 {
			for _, p := range []disk.Picks{{}, {Names: 1}, every(9, disk.Pick{}), every(2, disk.Pick{Keep: 47}), every(9, disk.Pick{Keep: 1 << 20, Turn: 8})} {
				d, v := begun(t, blob(9, 5), blob(7, 5), blob(8, 5))
				c := []*compact.Compactor{ahead(t, d, v, 0), ahead(t, d, v, 0)}
				for i, x := range order[:n] {
					_, _ = c[x-'0'].Step()
					must(t, v.Put(blob(uint64(50+i), i)))
				}
				was := seen(v)
				must(t, d.Crash(p))
				opens(t, fmt.Sprintf("P11.3: compactors %s, %d names picked", order[:n], p.Names), d, was)
			}
		}
	}
}

// One behind the other: each one's file is of the next generation.
func TestOneCompactorBehindTheOther(t *testing.T) {
	w := newTwins(t, ground...)
	for i := range 3 {
		for _, b := range w.b {
			must(t, b.v.Put(blob(uint64(i), i)))
		}
		for range len(places(w.b[0].v)) + 2 {
			w.step(i)
		}
		if g := w.b[0].v.Info().Gen; g != 2+i {
			t.Errorf("P11.1: a compactor behind another one: generation %d; want %d", g, 2+i)
		}
	}
	w.fall(disk.Picks{})
}
