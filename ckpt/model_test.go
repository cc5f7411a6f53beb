package ckpt_test

import (
	"fmt"
	"maps"
	"strings"
	"testing"

	"corncrib/api"
	"corncrib/ckpt"
	"corncrib/disk"
	"corncrib/sample"
	"corncrib/vol"
)

// scribe is a writer in other words: how many steps were done, or that it is
// over, and what it has to write.
type scribe struct {
	steps, gen, upto int
	over             bool
	text             string
}

// desk is a volume on a disk with writers, and what they should come to: the
// text of the draft, and those of the checkpoints by their generations. Two
// writers may have one text: who appends to it doesn't ask whose it is.
type desk struct {
	t      *testing.T
	d      *disk.Disk
	v      *vol.Vol
	w      [3]*ckpt.Writer
	m      [3]scribe
	draft  *string
	points map[int]*string
	log    []string
}

func newDesk(t *testing.T, l ...api.Needle) *desk {
	t.Helper()
	d, v := begun(t, l...)
	k := &desk{t: t, d: d, v: v, points: map[int]*string{}}
	for i := range k.w {
		k.renew(i)
	}
	return k
}

// renew makes a writer of the volume as it is now.
func (k *desk) renew(i int) {
	k.w[i], k.m[i] = sure(ckpt.New(k.d, k.v)), scribe{}
}

// should tells what a step of a writer should answer, and does it in the model.
func (k *desk) should(i int) (bool, api.Code) {
	m := &k.m[i]
	if m.over {
		return false, api.ErrDone
	}
	now := k.v.Info()
	if m.steps > 0 && m.gen != now.Gen {
		m.over, k.draft = true, nil
		return false, api.ErrStale
	}
	m.steps++
	if m.steps > 1 && m.steps < 5 && k.draft == nil {
		m.over = true
		return false, api.ErrNone
	}
	switch m.steps {
	case 1:
		*m = scribe{steps: 1, gen: now.Gen, upto: now.Size, text: point(k.v)}
		k.draft = new(string)
	case 2:
		*k.draft += m.text
	case 4:
		k.points[m.gen], k.draft = k.draft, nil
	case 5:
		m.over = true
	}
	return m.over, 0
}

// step does a step, and asks that it answers what it should.
func (k *desk) step(i int) {
	k.t.Helper()
	k.log = append(k.log, fmt.Sprint("step of ", i))
	done, e := k.w[i].Step()
	want, code := k.should(i)
	if done != want || !sample.Is(e, code) {
		k.t.Fatalf("P10.1: %s: %v, %v; want %v, %d", k.why(), done, e, want, code)
	}
	k.look()
}

// why tells what was done.
func (k *desk) why() string {
	return strings.Join(k.log[max(0, len(k.log)-20):], ", ")
}

// look asks that the disk has just the drafts and checkpoints that it should,
// and that all writers tell the sizes that they should.
func (k *desk) look() {
	k.t.Helper()
	want := map[string]string{}
	if k.draft != nil {
		want["c3.0"] = *k.draft
	}
	for gen, text := range k.points {
		want[fmt.Sprint("c3.", gen)] = *text
	}
	got := without(files(k.d), "m3", fmt.Sprint("v3.", k.v.Info().Gen))
	if !maps.Equal(got, want) {
		k.t.Fatalf("P10.1: %s: files %q; want %q", k.why(), got, want)
	}
	for i, w := range k.w {
		if w.Upto() != k.m[i].upto {
			k.t.Fatalf("P10.1: %s: Upto of %d: %d; want %d", k.why(), i, w.Upto(), k.m[i].upto)
		}
	}
}

// commit makes the volume one of the next generation, without its checkpoint.
func (k *desk) commit() {
	gen := k.v.Info().Gen
	must(k.t, compacted(k.d, k.v))
	delete(k.points, gen)
}

// fall crashes, with all that is there synced or with nothing, and opens.
func (k *desk) fall(all bool) {
	want := seen(k.v)
	if all {
		for _, name := range k.d.Names() {
			must(k.t, k.d.Sync(name))
		}
		must(k.t, k.d.SyncNames())
	}
	must(k.t, k.d.Crash(disk.Picks{}))
	k.v = opens(k.t, "P10.3: "+k.why(), k.d, want)
	k.draft = nil
	was := k.points[want.i.Gen]
	k.points = map[int]*string{}
	text, there := files(k.d)[fmt.Sprint("c3.", want.i.Gen)]
	if there {
		k.points[want.i.Gen] = &text
	}
	// If not all was synced what is left of it isn't the model's matter.
	if all && (there != (was != nil) || there && text != *was) {
		k.t.Fatalf("P10.3: %s: files %q", k.why(), files(k.d))
	}
	for i := range k.w {
		k.renew(i)
	}
}

// do does a call of a script.
func (k *desk) do(call []byte) {
	i, key := int(call[1]%3), uint64(call[1]%40)
	if call[0]%24 < 12 {
		k.step(i)
		return
	}
	k.log = append(k.log, fmt.Sprint("work ", call[0]%24, " ", call[1]))
	switch call[0] % 24 {
	case 12, 13:
		_ = k.v.Put(blob(key, int(call[2]%20)))
	case 14:
		_ = k.v.Del(key, uint32(key)+100)
	case 15:
		_ = k.v.Lay(dead(key))
	case 16:
		must(k.t, k.v.Set(k.v.Info().Epoch+int(call[2]%2), call[2]%5 == 0))
	case 17:
		k.commit()
	case 18, 19, 20:
		if k.m[i].over || call[2]%4 == 0 {
			k.renew(i)
		}
	case 21:
		if k.draft != nil {
			must(k.t, k.d.Remove("c3.0"))
			k.draft = nil
		}
	case 22:
		if k.draft != nil {
			must(k.t, k.d.Append("c3.0", call[1:3]))
			*k.draft += string(call[1:3])
		}
	case 23:
		k.fall(call[2]%2 == 0)
	}
	k.look()
}

// alike holds writers against the model, call by call.
func alike(t *testing.T, script []byte) {
	t.Helper()
	k := newDesk(t, blob(7, 5), blob(8, 5))
	for ; len(script) >= 3; script = script[3:] {
		k.do(script[:3])
	}
	k.fall(true)
}

func TestAsTheModel(t *testing.T) {
	for i := range 300 {
		alike(t, sample.Bytes(900+i))
	}
}

func FuzzAsTheModel(f *testing.F) {
	f.Add(sample.Bytes(300))
	f.Add([]byte{0, 0, 0, 12, 1, 2, 0, 0, 0, 0, 1, 0, 0, 0, 0, 17, 0, 0, 0, 0, 0})
	f.Fuzz(func(t *testing.T, script []byte) {
		alike(t, script)
	})
}

// orders tells all orders in which two writers may do five steps each.
func orders(a, b int) []string {
	if a+b == 0 {
		return []string{""}
	}
	var l []string
	if a > 0 {
		for _, s := range orders(a-1, b) {
			l = append(l, "0"+s)
		}
	}
	if b > 0 {
		for _, s := range orders(a, b-1) {
			l = append(l, "1"+s)
		}
	}
	return l
}

// Two writers of one volume, in each order, with a put between any two steps:
// each answers what the disk does, and whenever it crashes the volume opens as
// without them.
func TestTwoWriters(t *testing.T) {
	for _, order := range orders(5, 5) {
		for n := range len(order) + 1 {
			for _, picks := range []disk.Picks{{}, {Names: 1}, every(9, disk.Pick{}), every(2, disk.Pick{Keep: 47}), every(3, disk.Pick{Keep: 96}), every(9, disk.Pick{Keep: 1 << 20, Turn: 8})} {
				k := newDesk(t, blob(7, 5))
				for i, c := range order[:n] {
					k.step(int(c - '0'))
					must(t, k.v.Put(blob(uint64(50+i), i)))
				}
				want := seen(k.v)
				must(t, k.d.Crash(picks))
				opens(t, fmt.Sprintf("P10.3: writers %s, %v", order[:n], picks), k.d, want)
			}
		}
	}
}

// One behind the other: the later one's is there.
func TestOneWriterBehindTheOther(t *testing.T) {
	k := newDesk(t)
	for i := range 3 {
		must(t, k.v.Put(blob(uint64(i), i)))
		text := point(k.v)
		for range 5 {
			k.step(i)
		}
		has(t, "P10.1: a writer behind another one", k.d, with(files(k.d), "c3.1", text))
	}
	later(t, "P10.1: a writer behind another one", k.d, k.v, k.v.Info().Size)
}
