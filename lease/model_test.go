package lease_test

import (
	"slices"
	"testing"

	"corncrib/api"
	"corncrib/lease"
	"corncrib/sample"
)

// day is who holds a lease at a tick, of which epoch: nobody of the epoch 0.
type day struct {
	who, epoch int
}

// model is a lease in other words: a list of all that was handed in, and a calendar
// from a first tick on that says of each tick who holds the lease then, as far as is
// known. What it is asked it tells by its code.
type model struct {
	ticks  int
	first  int
	days   []day
	handed []int
	epochs int
}

func newModel(ticks, first int) *model {
	return &model{ticks: ticks, first: first, days: make([]day, 200), handed: []int{first}}
}

// today tells where in the calendar it is.
func (x *model) today(now int) int {
	x.handed = append(x.handed, min(now, 1<<30))
	return slices.Max(x.handed) - x.first
}

// write writes a day over so many of the calendar's, and wipes out those behind.
func (x *model) write(from, many int, d day) {
	clear(x.days[from:])
	for i := range many {
		x.days[from+i] = d
	}
}

func (x *model) take(who, now int) (int, api.Code) {
	if who < 0 || who > 255 {
		return 0, api.ErrArg
	}
	i := x.today(now)
	if d := x.days[i]; d.epoch != 0 && d.who != who {
		return 0, api.ErrBusy
	}
	x.epochs++
	x.write(i, x.ticks, day{who, x.epochs})
	return x.epochs, 0
}

// redo is Keep, with all ticks, and Drop, with none.
func (x *model) redo(who, epoch, now, many int) api.Code {
	i := x.today(now)
	d := day{who, epoch}
	if epoch == 0 || x.days[i] != d {
		return api.ErrStale
	}
	x.write(i, many, d)
	return 0
}

// holder tells who holds it, of which epoch, and how many days of it are left.
func (x *model) holder(now int) (who, epoch, left int) {
	i := x.today(now)
	if x.days[i].epoch == 0 {
		return 0, x.epochs, 0
	}
	for _, d := range x.days[i:] {
		if d != (day{}) {
			left++
		}
	}
	return x.days[i].who, x.epochs, left
}

// deed is a call, and with what.
type deed struct {
	kind            int
	who, epoch, now int
}

// The kinds of deeds.
const (
	take = iota
	keep
	drop
	holder
	left
	kinds
)

// do does a deed, and tells what it told: an epoch, who, whether it is held, how many
// ticks, and an error.
func do(l *lease.Lease, d deed) (told [4]int, e error) {
	switch d.kind {
	case take:
		told[0], e = l.Take(d.who, d.now)
	case keep:
		e = l.Keep(d.who, d.epoch, d.now)
	case drop:
		e = l.Drop(d.who, d.epoch, d.now)
	case holder:
		var held bool
		told[1], told[0], held = l.Holder(d.now)
		if held {
			told[2] = 1
		}
	default:
		told[3] = l.Left(d.now)
	}
	return told, e
}

// do does a deed, and tells what is to be told.
func (x *model) do(d deed) (told [4]int, c api.Code) {
	switch d.kind {
	case take:
		told[0], c = x.take(d.who, d.now)
	case keep:
		c = x.redo(d.who, d.epoch, d.now, x.ticks)
	case drop:
		c = x.redo(d.who, d.epoch, d.now, 0)
	case holder:
		told[1], told[0], told[2] = x.holder(d.now)
		told[2] = min(told[2], 1)
	default:
		_, _, told[3] = x.holder(d.now)
	}
	return told, c
}

// same does deeds with a lease of so many ticks, and holds each against the model.
func same(t *testing.T, ticks, first int, l []deed) {
	t.Helper()
	got, x := made(t, ticks), newModel(ticks, first)
	got.Left(first)
	for i, d := range l {
		told, e := do(got, d)
		want, c := x.do(d)
		if !sample.Is(e, c) || told != want {
			t.Fatalf("P18.1, P18.2: of %d ticks, deed %d of %+v: %v, %v; want %v, code %d", ticks, i, l, told, e, want, c)
		}
	}
	if len(l) == 0 {
		return
	}
	// How it stands behind them all, tick by tick.
	for now := l[len(l)-1].now; now <= l[len(l)-1].now+ticks+2; now++ {
		who, epoch, left := x.holder(now)
		if w, e, held := got.Holder(now); w != who || e != epoch || held != (left > 0) || got.Left(now) != left {
			t.Fatalf("P18.2: of %d ticks, behind %+v: at %d %d, %d, %v, %d; want %d, %d, %d", ticks, l, now, w, e, held, got.Left(now), who, epoch, left)
		}
	}
}

// choices are all deeds of two holders, with a tick so far from another one.
func choices(epoch int) []deed {
	var l []deed
	for who := range 2 {
		l = append(l, deed{kind: take, who: who})
		for _, e := range []int{epoch - 1, epoch} {
			l = append(l, deed{keep, who, e, 0}, deed{drop, who, e, 0})
		}
	}
	return append(l, deed{kind: holder}, deed{kind: take, who: 256})
}

func TestDeedsInEachOrder(t *testing.T) {
	const first = 50
	var l []deed
	var more func(ticks, epoch, now int)
	more = func(ticks, epoch, now int) {
		same(t, ticks, first, l)
		if len(l) == 4 {
			return
		}
		for _, d := range choices(epoch) {
			for _, step := range []int{-1, 0, 1, 2} {
				d.now = now + step
				l = append(l, d)
				next := epoch
				if d.kind == take {
					next++
				}
				more(ticks, next, max(now, d.now))
				l = l[:len(l)-1]
			}
		}
	}
	for ticks := 1; ticks <= 3; ticks++ {
		// With a Take ahead of them, most of them mean something.
		l = []deed{{kind: take, who: 1, now: first}}
		more(ticks, 1, first)
	}
}

const deedSize = 3 // bytes of a deed

// deeds are such as bytes say, from a first tick on: of few holders, near epochs, and
// times that mostly go on.
func deeds(script []byte, first int) []deed {
	var l []deed
	now, epoch := first, 0
	for b := range slices.Chunk(script, deedSize) {
		if len(b) < deedSize || len(l) == 40 {
			break
		}
		d := deed{kind: int(b[0]/8) % kinds, who: [...]int{0, 1, 2, 255, 0, 1, 256, -1}[b[0]%8]}
		d.now = now + int(b[1]%8) - 3
		d.epoch = epoch - int(b[2]%8)/3
		now = max(now, min(d.now, 1<<30))
		if d.kind == take {
			epoch++
		}
		if b[2] >= 128 {
			// Holders that know of no Take that went wrong.
			d.epoch = int(b[2] % 8)
		}
		if b[1] == 255 {
			d.now = -1 << 62
		}
		l = append(l, d)
	}
	return l
}

// run holds the deeds that bytes say against the model; the first byte tells the
// ticks, and where in time it begins.
func run(t *testing.T, script []byte) {
	t.Helper()
	if len(script) == 0 {
		return
	}
	for _, first := range []int{0, 1000, 1<<30 - 15} {
		same(t, 1+int(script[0])%20, first, deeds(script[1:], first))
	}
}

func TestScripts(t *testing.T) {
	for n := range 3000 {
		run(t, append([]byte{byte(n)}, sample.Bytes(deedSize*40+n)...))
	}
}

func FuzzLease(f *testing.F) {
	f.Add([]byte{4, 1, 3, 0, 2, 7, 0, 2, 4, 0})
	f.Add([]byte{0, 1, 3, 0, 9, 4, 0, 17, 3, 0, 25, 3, 0, 33, 3, 0})
	f.Add(sample.Bytes(1 + deedSize*30))
	f.Fuzz(run)
}

// behind tells a lease with which all these deeds were done.
func behind(t *testing.T, ticks int, l []deed) *lease.Lease {
	t.Helper()
	x := made(t, ticks)
	for _, d := range l {
		do(x, d)
	}
	return x
}

func TestNoTwoHoldIt(t *testing.T) {
	for n := range 60 {
		ticks := 1 + n%7
		l := deeds(sample.Bytes(deedSize*25+n), 0)
		for i := range l {
			oneHolds(t, ticks, l[:i+1], l[i].now)
			oneHolds(t, ticks, l[:i+1], l[i].now+ticks-1)
		}
	}
}

// oneHolds asks that of all who may ask, with each epoch, just who Holder tells can
// keep or drop the lease behind these deeds, and each other one finds it taken.
func oneHolds(t *testing.T, ticks int, l []deed, now int) {
	t.Helper()
	who, epoch, held := behind(t, ticks, l).Holder(now)
	for _, w := range []int{-1, 0, 1, 2, 255, 256} {
		for e := range epoch + 2 {
			mine := held && w == who && e == epoch
			if got := behind(t, ticks, l).Keep(w, e, now); (got == nil) != mine {
				t.Fatalf("P18.3: of %d ticks, behind %+v: %d holds it of %d, %v; Keep of %d, %d: %v", ticks, l, who, epoch, held, w, e, got)
			}
			if got := behind(t, ticks, l).Drop(w, e, now); (got == nil) != mine {
				t.Fatalf("P18.3: of %d ticks, behind %+v: %d holds it of %d, %v; Drop of %d, %d: %v", ticks, l, who, epoch, held, w, e, got)
			}
		}
		free := w >= 0 && w <= 255 && (!held || w == who)
		if _, got := behind(t, ticks, l).Take(w, now); (got == nil) != free {
			t.Fatalf("P18.3: of %d ticks, behind %+v: %d holds it of %d, %v; Take of %d: %v", ticks, l, who, epoch, held, w, got)
		}
	}
}

func TestEpochsOnlyRise(t *testing.T) {
	for n := range 300 {
		ticks := 1 + n%7
		l := deeds(sample.Bytes(deedSize*40+n), 0)
		x := made(t, ticks)
		owner := []int{0} // of each epoch
		for i, d := range l {
			told, e := do(x, d)
			if d.kind == take && e == nil {
				if told[0] != len(owner) {
					t.Fatalf("P18.3: of %d ticks, %+v: Take tells the epoch %d behind %d", ticks, l[:i+1], told[0], len(owner)-1)
				}
				owner = append(owner, d.who)
			}
			who, epoch, held := x.Holder(d.now)
			if epoch != len(owner)-1 || held && who != owner[epoch] {
				t.Fatalf("P18.3: of %d ticks, behind %+v: %d, %d, %v; want the epoch %d of %d", ticks, l[:i+1], who, epoch, held, len(owner)-1, owner[len(owner)-1])
			}
		}
	}
}

func TestAModelOfOneCalendar(t *testing.T) {
	// What the model says of the chapter's example, so that it isn't wrong as well.
	x := newModel(5, 10)
	for i, y := range []struct {
		who, now, epoch int
		code            api.Code
	}{{1, 10, 1, 0}, {2, 14, 0, api.ErrBusy}, {2, 15, 2, 0}} {
		if epoch, c := x.take(y.who, y.now); epoch != y.epoch || c != y.code {
			t.Errorf("the model's Take %d: %d, %d; want %d, %d", i, epoch, c, y.epoch, y.code)
		}
	}
}
