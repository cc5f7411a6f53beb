package lease_test

import (
	"fmt"
	"math"
	"slices"
	"testing"

	"corncrib/api"
	"corncrib/lease"
)

// state is a lease that came about somehow, and how it stands: with 0 left it is
// nobody's.
type state struct {
	why    string
	ticks  int
	now    int // the time that was handed in last
	who    int
	epoch  int // the last one
	left   int
	before int // who holds it, or held it last
	build  func(l *lease.Lease)
}

// lease tells the lease itself, each time another one.
func (s state) lease(t *testing.T) *lease.Lease {
	t.Helper()
	l := made(t, s.ticks)
	s.build(l)
	return l
}

// at tells how many ticks are left, if that time is handed in next.
func (s state) at(now int) int {
	now = min(max(now, s.now), last)
	return max(s.left-(now-s.now), 0)
}

// nows are times to be handed in next: far ones, those around the last one, and
// those around the one at which the lease is over.
func (s state) nows() []int {
	l := []int{math.MinInt, -1, 0, math.MaxInt, last, last - 1, last + 1}
	for d := -2; d <= 2; d++ {
		l = append(l, s.now+d, s.now+s.left+d, s.now+s.ticks+d)
	}
	return each(l...)
}

// each tells numbers by size, none twice.
func each(l ...int) []int {
	slices.Sort(l)
	return slices.Compact(l)
}

// states are leases of all kinds.
func states() []state {
	var l []state
	for _, ticks := range []int{1, 2, 5, 256, last - 1, last} {
		for _, start := range []int{0, 1, 100, last - 1, last} {
			for _, who := range []int{0, 1, 255} {
				l = append(l, held(ticks, start, who)...)
				l = append(l, nobodys(ticks, start, who)...)
			}
		}
	}
	return l
}

// held are leases that who took at this tick, or holds since.
func held(ticks, start, who int) []state {
	add := func(why string, now, epoch, left int, build func(l *lease.Lease)) state {
		why = fmt.Sprintf("of %d ticks, taken at %d by %d, %s", ticks, start, who, why)
		return state{why: why, ticks: ticks, now: now, who: who, epoch: epoch, left: left, before: who, build: build}
	}
	final := min(start+ticks-1, last) // the last tick at which it is held
	l := []state{
		add("just now", start, 1, ticks, func(l *lease.Lease) { l.Take(who, start) }),
		add("at its last tick", final, 1, ticks-(final-start), func(l *lease.Lease) { l.Take(who, start); l.Left(final) }),
		add("anew at its last tick", final, 2, ticks, func(l *lease.Lease) { l.Take(who, start); l.Take(who, final) }),
		add("kept at its last tick", final, 1, ticks, func(l *lease.Lease) { l.Take(who, start); l.Keep(who, 1, final) }),
		add("behind another one's Drop", start, 2, ticks, func(l *lease.Lease) { l.Take(77, start); l.Drop(77, 1, start); l.Take(who, start) }),
	}
	if start+ticks <= last {
		end := start + ticks
		l = append(l, add("behind another one's time", end, 2, ticks, func(l *lease.Lease) { l.Take(77, start); l.Take(who, end) }))
	}
	return l
}

// nobodys are leases that nobody holds at this tick, or so many ticks behind.
func nobodys(ticks, start, who int) []state {
	add := func(why string, now, epoch int, build func(l *lease.Lease)) state {
		why = fmt.Sprintf("of %d ticks, from %d on, of %d, %s", ticks, start, who, why)
		return state{why: why, ticks: ticks, now: now, epoch: epoch, before: who, build: build}
	}
	l := []state{
		add("that nobody ever took", start, 0, func(l *lease.Lease) { l.Left(start) }),
		add("dropped", start, 1, func(l *lease.Lease) { l.Take(who, start); l.Drop(who, 1, start) }),
		add("taken anew and dropped", start, 2, func(l *lease.Lease) { l.Take(who, start); l.Take(who, start); l.Drop(who, 2, start) }),
		add("kept and dropped", start, 1, func(l *lease.Lease) { l.Take(who, start); l.Keep(who, 1, start); l.Drop(who, 1, start) }),
	}
	if start+ticks <= last {
		end := start + ticks
		l = append(l, add("that is over", end, 1, func(l *lease.Lease) { l.Take(who, start); l.Left(end) }))
		l = append(l, add("that is long over", last, 1, func(l *lease.Lease) { l.Take(who, start); l.Left(last) }))
	}
	if start+1 <= last && ticks > 1 {
		l = append(l, add("dropped a tick later", start+1, 1, func(l *lease.Lease) { l.Take(who, start); l.Drop(who, 1, start+1) }))
	}
	return l
}

// sure asks that a lease stands as told, at that time, and nothing else did it.
func sure(t *testing.T, s state, why string, l *lease.Lease, now int) {
	t.Helper()
	left := s.at(now)
	who := 0
	if left > 0 {
		who = s.who
	}
	stands(t, "a lease "+s.why+why, l, now, who, s.epoch, left)
}

func TestStates(t *testing.T) {
	for _, s := range states() {
		for _, now := range s.nows() {
			sure(t, s, "", s.lease(t), now)
		}
		// Tick by tick, as far as it is near, in one lease.
		l := s.lease(t)
		for d := range 300 {
			sure(t, s, ", tick by tick", l, s.now+d)
		}
	}
}

func TestTake(t *testing.T) {
	for _, s := range states() {
		for _, now := range s.nows() {
			for _, who := range each(append(whos, s.before)...) {
				l := s.lease(t)
				if s.at(now) > 0 && who != s.who {
					noTake(t, "a lease "+s.why, l, who, now, api.ErrBusy)
					sure(t, s, fmt.Sprint(", behind Take of ", who), l, now)
					continue
				}
				takes(t, "a lease "+s.why, l, who, now, s.epoch+1)
				stands(t, "a lease "+s.why+", behind Take", l, now, who, s.epoch+1, s.ticks)
			}
		}
	}
}

func TestTakeOfWhoCanNotBe(t *testing.T) {
	for _, s := range states() {
		l := s.lease(t)
		for _, who := range far {
			for _, now := range s.nows() {
				noTake(t, "a lease "+s.why, l, who, now, api.ErrArg)
			}
		}
		// None of those times counts, so it stands as it stood.
		sure(t, s, ", behind Take of who can't be", l, s.now)
		sure(t, s, ", behind Take of who can't be", l, 0)
		takes(t, "a lease "+s.why+", behind Take of who can't be", l, s.before, s.now, s.epoch+1)
		stands(t, "a lease "+s.why+", taken behind Take of who can't be", l, s.now, s.before, s.epoch+1, s.ticks)
	}
}

// epochs are such as it may be asked for: those near, and far ones.
func (s state) epochs() []int {
	return each(s.epoch, s.epoch-1, s.epoch+1, 0, 1, 2, -1, -s.epoch, s.epoch+256, s.epoch+1<<32, s.epoch|math.MinInt, math.MinInt, math.MaxInt)
}

// keepers are who may ask, and such as can't be.
func (s state) keepers() []int {
	return each(s.before, s.before-1, s.before+1, -s.before, 0, 1, 77, 255, s.before+256, s.before+1<<32, -1, 256, math.MinInt, math.MaxInt)
}

// strangers asks that who doesn't hold it at that time, of its epoch, is told ErrStale,
// and changes nothing; ask is keeps or drops.
func (s state) strangers(t *testing.T, now int, ask func(t *testing.T, why string, l *lease.Lease, who, epoch, now int, want api.Code)) {
	t.Helper()
	l := s.lease(t)
	for _, who := range s.keepers() {
		for _, epoch := range s.epochs() {
			if s.at(now) == 0 || who != s.who || epoch != s.epoch {
				ask(t, "a lease "+s.why, l, who, epoch, now, api.ErrStale)
			}
		}
	}
	sure(t, s, ", behind who doesn't hold it", l, now)
}

func TestKeep(t *testing.T) {
	for _, s := range states() {
		for _, now := range s.nows() {
			s.strangers(t, now, keeps)
			if s.at(now) == 0 {
				continue
			}
			l := s.lease(t)
			keeps(t, "a lease "+s.why, l, s.who, s.epoch, now, 0)
			stands(t, "a lease "+s.why+", behind Keep", l, now, s.who, s.epoch, s.ticks)
			keeps(t, "a lease "+s.why+", kept", l, s.who, s.epoch, now, 0)
			stands(t, "a lease "+s.why+", kept twice", l, now, s.who, s.epoch, s.ticks)
		}
	}
}

func TestDrop(t *testing.T) {
	for _, s := range states() {
		for _, now := range s.nows() {
			s.strangers(t, now, drops)
			if s.at(now) == 0 {
				continue
			}
			l := s.lease(t)
			drops(t, "a lease "+s.why, l, s.who, s.epoch, now, 0)
			stands(t, "a lease "+s.why+", behind Drop", l, now, 0, s.epoch, 0)
			drops(t, "a lease "+s.why+", dropped", l, s.who, s.epoch, now, api.ErrStale)
			keeps(t, "a lease "+s.why+", dropped", l, s.who, s.epoch, now, api.ErrStale)
			stands(t, "a lease "+s.why+", dropped twice", l, now, 0, s.epoch, 0)
			stands(t, "a lease "+s.why+", dropped long ago", l, last, 0, s.epoch, 0)
			takes(t, "a lease "+s.why+", dropped", l, 88, now, s.epoch+1)
			stands(t, "a lease "+s.why+", behind Drop and Take", l, now, 88, s.epoch+1, s.ticks)
		}
	}
}

func TestEachMayTakeIt(t *testing.T) {
	l := made(t, 3)
	for who := range 256 {
		takes(t, "one behind the other", l, who, 3*who, who+1)
		for other := range 256 {
			if other != who {
				noTake(t, "one behind the other", l, other, 3*who+2, api.ErrBusy)
			}
		}
		stands(t, "one behind the other", l, 3*who+2, who, who+1, 1)
		stands(t, "one behind the other", l, 3*who+3, 0, who+1, 0)
	}
}

func TestOldEpochsOfWhoHoldsIt(t *testing.T) {
	l := made(t, 5)
	for epoch := 1; epoch <= 20; epoch++ {
		takes(t, "taken anew", l, 1, 10, epoch)
		for old := -1; old <= 22; old++ {
			if old != epoch {
				keeps(t, "taken anew", l, 1, old, 12, api.ErrStale)
				drops(t, "taken anew", l, 1, old, 12, api.ErrStale)
			}
		}
		keeps(t, "taken anew", l, 1, epoch, 12, 0)
		stands(t, "taken anew", l, 12, 1, epoch, 5)
	}
}

func TestKeptOnAndOn(t *testing.T) {
	for _, ticks := range []int{2, 3, 5, 1000} {
		l := made(t, ticks)
		takes(t, "kept on and on", l, 4, 0, 1)
		for now := 0; now < 20*ticks; now += ticks - 1 {
			keeps(t, "kept on and on", l, 4, 1, now, 0)
			stands(t, "kept on and on", l, now, 4, 1, ticks)
			noTake(t, "kept on and on", l, 5, now+ticks-1, api.ErrBusy)
		}
	}
}
