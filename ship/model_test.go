package ship_test

import (
	"fmt"
	"maps"
	"math"
	"slices"
	"strings"
	"testing"

	"corncrib/api"
	"corncrib/compact"
	"corncrib/disk"
	"corncrib/needle"
	"corncrib/sample"
	"corncrib/ship"
	"corncrib/vol"
)

// taken is a load as the chapter tells it, word by word: it goes over all keys.
func taken(v *vol.Vol, from uint64, most int) (ship.Load, error) {
	if most < 1 || most > 64 {
		return ship.Load{}, api.ErrArg
	}
	l := slices.DeleteFunc(all(v), func(p api.Pos) bool { return p.Key < from })
	var x ship.Load
	if x.More = len(l) > most; x.More {
		x.Next = l[most].Key
	}
	x.L, x.Bad = read(v, l[:min(most, len(l))])
	return x, nil
}

// read tells the needles at positions, and how many are bad.
func read(v *vol.Vol, l []api.Pos) ([]api.Needle, int) {
	var whole []api.Needle
	bad := 0
	for _, p := range l {
		n, e := v.Get(p.Key, p.Cookie)
		switch {
		case p.Gone:
			whole = append(whole, api.Needle{Key: p.Key, Cookie: p.Cookie, Gone: true})
		case e != nil:
			bad++
		default:
			whole = append(whole, n)
		}
	}
	return whole, bad
}

// laid lays needles one by one.
func laid(v *vol.Vol, l []api.Needle) (n int, e error) {
	for n < len(l) && e == nil {
		if e = v.Lay(l[n]); e == nil {
			n++
		}
	}
	return n, e
}

// shipped lays what a volume has, cut up into loads.
func shipped(from, to *vol.Vol) (int, error) {
	n := 0
	for l := range slices.Chunk(all(from), 64) {
		whole, _ := read(from, l)
		m, e := laid(to, whole)
		if n += m; e != nil {
			return n, e
		}
	}
	return n, nil
}

// late tells the keys of which b has not what a has.
func late(a, b *vol.Vol) []uint64 {
	has := map[uint64]api.Pos{}
	for _, p := range all(b) {
		has[p.Key] = p
	}
	var keys []uint64
	for _, p := range all(a) {
		if q, there := has[p.Key]; !there || p.Gone && !q.Gone {
			keys = append(keys, p.Key)
		}
	}
	return keys
}

// side is a volume, and a twin on a disk of its own, with which all is done as
// with the volume; but what package ship does, the twin does as told above.
type side struct {
	d, td *disk.Disk
	v, tv *vol.Vol
	most  int
}

func newSide(capacity, most int) *side {
	s := &side{d: sure(disk.New(capacity)), td: sure(disk.New(capacity)), most: most}
	s.v, s.tv = sure(vol.Make(s.d, 3, most, 0)), sure(vol.Make(s.td, 3, most, 0))
	return s
}

// bench is three sides: one with room, one whose volume becomes full, and one
// whose disk does.
type bench struct {
	t   *testing.T
	s   [3]*side
	log []string
}

func newBench(t *testing.T) *bench {
	b := &bench{t: t}
	for i := range b.s {
		b.renew(i)
	}
	return b
}

func (b *bench) renew(i int) {
	b.s[i] = newSide([]int{plenty, plenty, 5000}[i], []int{plenty, 6000, plenty}[i])
}

func (b *bench) why() string { return strings.Join(b.log[max(0, len(b.log)-20):], ", ") }

func (b *bench) say(what string, x ...any) { b.log = append(b.log, what+": "+fmt.Sprint(x...)) }

// alike asks that two errors are the same one, at the same place.
func (b *bench) alike(promise string, got, want error) {
	b.t.Helper()
	g, ok := got.(*api.At)
	w, asked := want.(*api.At)
	if ok != asked || ok && *g != *w || !ok && got != want {
		b.t.Fatalf("%s: %s: %v; want %v", promise, b.why(), got, want)
	}
}

// both does the same with a side's volume and with its twin.
func (b *bench) both(i int, what string, do func(d *disk.Disk, v *vol.Vol) error) {
	b.t.Helper()
	s := b.s[i]
	e := do(s.d, s.v)
	b.say(fmt.Sprint(what, " ", i), e)
	b.alike("the twin", e, do(s.td, s.tv))
}

// twins asks that each volume is as its twin, its disk, too.
func (b *bench) twins(promise string) {
	b.t.Helper()
	for i, s := range b.s {
		if s.v.Info() != s.tv.Info() || !slices.Equal(all(s.v), all(s.tv)) || s.d.Down() != s.td.Down() || s.d.Used() != s.td.Used() {
			b.t.Fatalf("%s: %s: side %d has %+v, %v; want %+v, %v", promise, b.why(), i, s.v.Info(), all(s.v), s.tv.Info(), all(s.tv))
		}
		if !s.d.Down() && !maps.Equal(files(s.d), files(s.td)) {
			b.t.Fatalf("%s: %s: side %d has other bytes", promise, b.why(), i)
		}
	}
}

func (b *bench) take(i int, from uint64, most int) ship.Load {
	b.t.Helper()
	x, e := ship.Take(b.s[i].v, from, most)
	b.say(fmt.Sprintf("Take(%d, %d) of %d", from, most, i), len(x.L), x.Bad, e)
	want, wrong := taken(b.s[i].tv, from, most)
	b.alike("P13.1: Take", e, wrong)
	took(b.t, "P13.1: "+b.why(), x, want)
	b.twins("P13.1: Take")
	return x
}

func (b *bench) lay(i int, l []api.Needle) {
	b.t.Helper()
	n, e := ship.Lay(b.s[i].v, l)
	b.say(fmt.Sprintf("Lay of %d on %d", len(l), i), n, e)
	m, wrong := laid(b.s[i].tv, l)
	b.alike("P13.1: Lay", e, wrong)
	if n != m {
		b.t.Fatalf("P13.1: %s: %d were laid; want %d", b.why(), n, m)
	}
	b.twins("P13.1: Lay")
}

// ship carries all of a side to another one, or to itself.
func (b *bench) ship(i, j int) {
	b.t.Helper()
	n, e := ship.All(b.s[i].v, b.s[j].v)
	b.say(fmt.Sprintf("All of %d to %d", i, j), n, e)
	m, wrong := shipped(b.s[i].tv, b.s[j].tv)
	b.alike("P13.2: All", e, wrong)
	if n != m {
		b.t.Fatalf("P13.2: %s: %d were laid; want %d", b.why(), n, m)
	}
	b.twins("P13.2: All")
	if e == nil {
		b.carried(i, j, n)
	}
}

// carried asks that none but bad ones is behind, and that nothing is left to do.
func (b *bench) carried(i, j, n int) {
	b.t.Helper()
	v, w := b.s[i].v, b.s[j].v
	for _, key := range sure(ship.Behind(v, w)) {
		p := pos(b.t, v, key)
		if _, e := v.Get(key, p.Cookie); p.Gone || e == nil {
			b.t.Fatalf("P13.3: %s: %+v is behind", b.why(), p)
		}
	}
	// A file that is cut behind the volume's back hasn't what is appended to it where
	// the volume looks for it.
	if size, e := b.s[j].d.Size(file(w)); b.s[i].d.Down() || e != nil || size != w.Info().Size {
		return
	}
	m, e := ship.All(v, w)
	if n != m || e != nil {
		b.t.Fatalf("P13.3: %s, twice: %d, %v; want %d", b.why(), m, e, n)
	}
	b.twins("P13.3: All twice")
}

func (b *bench) behind(i, j int) {
	b.t.Helper()
	b.say(fmt.Sprintf("Behind of %d and %d", i, j))
	behind(b.t, "P13.2: "+b.why(), b.s[i].v, b.s[j].v, late(b.s[i].tv, b.s[j].tv)...)
	b.twins("P13.2: Behind")
}

// fall crashes a side, and opens what is left, if it can be opened.
func (b *bench) fall(i, names, keep int, turn byte) {
	b.t.Helper()
	picks := disk.Picks{Names: names, Files: slices.Repeat([]disk.Pick{{Keep: keep, Turn: turn}}, 99)}
	b.both(i, "Crash", func(d *disk.Disk, v *vol.Vol) error { return d.Crash(picks) })
	s := b.s[i]
	v, e := vol.Open(s.d, 3, s.most)
	tv, wrong := vol.Open(s.td, 3, s.most)
	b.say("Open", e)
	b.alike("the twin", e, wrong)
	if e != nil {
		b.renew(i)
		return
	}
	s.v, s.tv = v, tv
}

// key tells one of a few keys: the least ones, and the greatest.
func key(x byte) uint64 {
	if k := uint64(x % 100); k < 96 {
		return k
	}
	return greatest - uint64(x%100-96)
}

// some tells needles that begin with a key, some of them such that may not be.
func some(k, how byte) []api.Needle {
	l := make([]api.Needle, how%80)
	for i := range l {
		l[i] = blob(key(k+byte(i)), int(k)%7)
		switch x := k*31 ^ how*7 + byte(i)*13; {
		case x%8 == 1:
			l[i] = dead(l[i].Key)
		case x == 2:
			l[i] = other(l[i])
		case x == 4:
			l[i] = data(dead(l[i].Key), "x")
		case x == 6:
			l[i] = long(l[i])
		}
	}
	return l
}

// spoil does something to a side's file.
func (b *bench) spoil(i int, at, how byte) {
	b.t.Helper()
	b.both(i, "a fault", func(d *disk.Disk, v *vol.Vol) error {
		n, _ := d.Size(file(v))
		off := n * int(at) / 256
		switch how % 16 {
		case 0:
			return d.Cut(file(v), off)
		case 1:
			return d.Remove(file(v))
		}
		return d.Spoil(file(v), off, 1<<(how%8))
	})
}

// do does a call of a script.
func (b *bench) do(call []byte) {
	b.t.Helper()
	i, j, k, how := int(call[1]%3), int(call[1]/3%3), key(call[2]), call[3]
	switch kind := call[0] % 32; {
	case kind < 5:
		b.take(i, k, int(how%70))
	case kind == 5:
		b.take(i, k, []int{math.MinInt, -1, 0, 65, math.MaxInt}[how%5])
	case kind < 8:
		b.lay(j, b.take(i, k, int(how%64)+1).L)
	case kind < 12:
		b.lay(i, some(call[2], how))
	case kind < 18:
		b.ship(i, j)
	case kind < 21:
		b.behind(i, j)
	case kind < 23:
		b.both(i, fmt.Sprint("Put ", k), func(d *disk.Disk, v *vol.Vol) error { return v.Put(blob(k, int(how%20))) })
	case kind < 25:
		b.both(i, fmt.Sprint("Del ", k), func(d *disk.Disk, v *vol.Vol) error { return v.Del(k, uint32(k)+100) })
	case kind == 25:
		b.both(i, "Set", func(d *disk.Disk, v *vol.Vol) error { return v.Set(1, how%2 == 0) })
	case kind == 26 && how%4 == 0:
		b.both(i, "Run", compact.Run)
	case kind < 29 && how < 100:
		b.spoil(i, call[2], how)
	case kind == 29 && how%8 == 0:
		b.fall(i, int(call[2]%8), int(how), call[2])
	case kind == 30 && how%4 == 0:
		b.both(i, "Arm", func(d *disk.Disk, v *vol.Vol) error { return d.Arm(int(call[2])) })
	case kind == 31 && how%4 == 0:
		b.say("a new side", i)
		b.renew(i)
	}
}

// script does calls with volumes and their twins.
func script(t *testing.T, calls []byte) *bench {
	t.Helper()
	b := newBench(t)
	for ; len(calls) >= 4; calls = calls[4:] {
		b.do(calls[:4])
		if b.twins("the twin"); t.Failed() {
			return b
		}
	}
	for i := range b.s {
		for j := range b.s {
			b.behind(i, j)
			b.ship(i, j)
		}
	}
	return b
}

func TestAsTheModel(t *testing.T) {
	for i := range 60 {
		script(t, sample.Bytes(1200+24*i))
		if t.Failed() {
			return
		}
	}
}

func FuzzAsTheModel(f *testing.F) {
	f.Add(sample.Bytes(400))
	f.Add([]byte{8, 0, 0, 75, 12, 3, 0, 0, 18, 1, 0, 0, 0, 1, 9, 64})
	f.Fuzz(func(t *testing.T, calls []byte) {
		script(t, calls[:min(len(calls), 4000)])
	})
}

// A script's needles are of all kinds.
func TestSomeNeedles(t *testing.T) {
	codes := map[error]int{}
	gone := 0
	for k := range 256 {
		for _, n := range some(byte(k), byte(k)) {
			codes[needle.Check(n)]++
			if n.Gone {
				gone++
			}
		}
	}
	if codes[nil] == 0 || codes[api.ErrLong] == 0 || codes[api.ErrArg] == 0 || gone == 0 {
		t.Errorf("needles of a script: %v, %d gone", codes, gone)
	}
}
