package lease_test

import (
	"fmt"
	"math"
	"testing"

	"corncrib/api"
	"corncrib/lease"
)

// hand is a call that hands in a time, by what it came to.
type hand struct {
	why  string
	call func(l *lease.Lease, now int)
}

// looks hand in a time, and change nothing else of a lease that 1 holds in the epoch
// 1, or that nobody holds.
var looks = []hand{
	{"Holder", func(l *lease.Lease, now int) { l.Holder(now) }},
	{"Left", func(l *lease.Lease, now int) { l.Left(now) }},
	{"Keep of another one", func(l *lease.Lease, now int) { l.Keep(2, 1, now) }},
	{"Keep of another epoch", func(l *lease.Lease, now int) { l.Keep(1, 0, now) }},
	{"Keep of who can't be", func(l *lease.Lease, now int) { l.Keep(-1, math.MinInt, now) }},
	{"Drop of another one", func(l *lease.Lease, now int) { l.Drop(2, 1, now) }},
	{"Drop of another epoch", func(l *lease.Lease, now int) { l.Drop(1, 2, now) }},
	{"Drop of who can't be", func(l *lease.Lease, now int) { l.Drop(256, math.MaxInt, now) }},
}

// lower are times that are lower than this one.
func lower(now int) []int {
	return []int{now - 1, now / 2, 1, 0, -1, -now, -last, math.MinInt + 1, math.MinInt}
}

func TestTimeNeverGoesBack(t *testing.T) {
	for _, look := range looks {
		for _, now := range lower(104) {
			why := "behind " + look.why + " at 104"
			seen := func() *lease.Lease {
				l := made(t, 5)
				takes(t, why, l, 1, 100, 1)
				look.call(l, 104)
				return l
			}
			stands(t, why, seen(), now, 1, 1, 1)
			noTake(t, why, seen(), 2, now, api.ErrBusy)
			l := seen()
			takes(t, why, l, 1, now, 2)
			stands(t, why+", taken anew", l, 108, 1, 2, 1)
			l = seen()
			keeps(t, why, l, 1, 1, now, 0)
			stands(t, why+", kept", l, 108, 1, 1, 1)
			l = seen()
			drops(t, why, l, 1, 1, now, 0)
			stands(t, why+", dropped", l, now, 0, 1, 0)
			// A lower time behind it changes nothing of that.
			l = seen()
			look.call(l, now)
			stands(t, why+", and at a lower tick", l, now, 1, 1, 1)
		}
	}
}

func TestWhatIsOverStaysOver(t *testing.T) {
	for _, look := range looks {
		for _, now := range append([]int{104, 105}, lower(105)...) {
			why := "behind " + look.why + " at 105"
			seen := func() *lease.Lease {
				l := made(t, 5)
				takes(t, why, l, 1, 100, 1)
				look.call(l, 105)
				return l
			}
			stands(t, why, seen(), now, 0, 1, 0)
			keeps(t, why, seen(), 1, 1, now, api.ErrStale)
			drops(t, why, seen(), 1, 1, now, api.ErrStale)
			l := seen()
			takes(t, why, l, 2, now, 2)
			stands(t, why+", taken", l, 109, 2, 2, 1)
			stands(t, why+", taken", l, 110, 0, 2, 0)
		}
	}
}

func TestTimeThatOtherCallsHandIn(t *testing.T) {
	for _, now := range lower(104) {
		// Take, of who holds it and of another one.
		l := made(t, 5)
		takes(t, "the first", l, 1, 104, 1)
		stands(t, "behind Take at 104", l, now, 1, 1, 5)
		stands(t, "behind Take at 104", l, 108, 1, 1, 1)
		noTake(t, "behind Take at 104", l, 2, 108, api.ErrBusy)
		stands(t, "behind Take at 108 with ErrBusy", l, now, 1, 1, 1)
		// Keep and Drop of who holds it.
		keeps(t, "behind Take at 108 with ErrBusy", l, 1, 1, 108, 0)
		stands(t, "behind Keep at 108", l, now, 1, 1, 5)
		stands(t, "behind Keep at 108", l, 112, 1, 1, 1)
		drops(t, "behind Keep at 108", l, 1, 1, 112, 0)
		takes(t, "behind Drop at 112", l, 2, now, 2)
		stands(t, "behind Drop at 112, and Take", l, 116, 2, 2, 1)
		stands(t, "behind Drop at 112, and Take", l, 117, 0, 2, 0)
	}
}

func TestTimeOfALeaseThatNobodyTook(t *testing.T) {
	for _, look := range looks {
		for _, now := range lower(104) {
			l := made(t, 5)
			look.call(l, 104)
			takes(t, "behind "+look.why+" at 104", l, 1, now, 1)
			stands(t, "behind "+look.why+" at 104, taken", l, 108, 1, 1, 1)
			stands(t, "behind "+look.why+" at 104, taken", l, 109, 0, 1, 0)
		}
	}
}

func TestTimeOfATakeOfWhoCanNotBe(t *testing.T) {
	for _, who := range []int{-1, 256, math.MinInt, math.MaxInt} {
		for _, now := range []int{11, 14, 15, 16, last, math.MaxInt} {
			why := fmt.Sprintf("behind Take of %d at %d", who, now)
			l := made(t, 5)
			noTake(t, why, l, who, now, api.ErrArg)
			takes(t, why, l, 1, 10, 1)
			noTake(t, why, l, who, now, api.ErrArg)
			stands(t, why, l, 10, 1, 1, 5)
			noTake(t, why, l, 2, 14, api.ErrBusy)
			noTake(t, why, l, who, now, api.ErrArg)
			keeps(t, why, l, 1, 1, 14, 0)
			noTake(t, why, l, who, now, api.ErrArg)
			stands(t, why, l, 18, 1, 1, 1)
			noTake(t, why, l, who, now, api.ErrArg)
			drops(t, why, l, 1, 1, 18, 0)
		}
	}
}

func TestTimeBelowItsBeginning(t *testing.T) {
	for _, now := range []int{-1, -2, -5, -256, -last, -last - 1, math.MinInt32, -1 << 40, math.MinInt + 1, math.MinInt} {
		for _, ticks := range []int{1, 5, last} {
			why := fmt.Sprintf("of %d ticks, taken at %d", ticks, now)
			l := made(t, ticks)
			stands(t, why, l, now, 0, 0, 0)
			takes(t, why, l, 1, now, 1)
			// It counts as 0.
			stands(t, why, l, now, 1, 1, ticks)
			stands(t, why, l, math.MinInt, 1, 1, ticks)
			stands(t, why, l, 0, 1, 1, ticks)
			noTake(t, why, l, 2, ticks-1, api.ErrBusy)
			stands(t, why, l, ticks-1, 1, 1, 1)
			takes(t, why, l, 2, ticks, 2)
		}
	}
}

func TestTimeBeyondItsEnd(t *testing.T) {
	for _, now := range []int{last, last + 1, last + 5, 2 * last, math.MaxInt32, 1 << 31, 1 << 32, 1 << 40, math.MaxInt - 1, math.MaxInt} {
		for _, ticks := range []int{1, 2, 5, last - 1, last} {
			why := fmt.Sprintf("of %d ticks, taken at %d", ticks, now)
			l := made(t, ticks)
			takes(t, why, l, 1, now, 1)
			// It counts as 2^30, so it is held for good.
			for _, then := range []int{math.MinInt, 0, last - 1, last, last + 1, last + ticks, 1 << 40, math.MaxInt} {
				stands(t, why, l, then, 1, 1, ticks)
				noTake(t, why, l, 2, then, api.ErrBusy)
				keeps(t, why, l, 1, 1, then, 0)
				keeps(t, why, l, 2, 1, then, api.ErrStale)
				drops(t, why, l, 1, 2, then, api.ErrStale)
			}
			takes(t, why, l, 1, now, 2)
			stands(t, why, l, math.MaxInt, 1, 2, ticks)
			drops(t, why, l, 1, 2, 0, 0)
			takes(t, why, l, 2, 0, 3)
			stands(t, why, l, now, 2, 3, ticks)
		}
	}
}

func TestLeaseThatTimeEndsIn(t *testing.T) {
	for _, ticks := range []int{1, 2, 3, 5, 256} {
		for d := range 8 {
			start := last - d
			why := fmt.Sprintf("of %d ticks, taken at 2^30 - %d", ticks, d)
			l := made(t, ticks)
			takes(t, why, l, 1, start, 1)
			for now := start; now < last; now++ {
				who := 0
				if now-start < ticks {
					who = 1
				}
				stands(t, why, l, now, who, 1, max(ticks-(now-start), 0))
			}
			for _, now := range []int{last, last + 1, math.MaxInt} {
				if d >= ticks {
					stands(t, why, l, now, 0, 1, 0)
					keeps(t, why, l, 1, 1, now, api.ErrStale)
					continue
				}
				stands(t, why, l, now, 1, 1, ticks-d)
				noTake(t, why, l, 2, now, api.ErrBusy)
			}
		}
	}
}

func TestTheLongestLease(t *testing.T) {
	l := made(t, last)
	takes(t, "from 0 on", l, 1, 0, 1)
	noTake(t, "from 0 on", l, 2, last-1, api.ErrBusy)
	stands(t, "from 0 on", l, last-1, 1, 1, 1)
	stands(t, "from 0 on", l, last, 0, 1, 0)
	keeps(t, "from 0 on", l, 1, 1, last, api.ErrStale)
	takes(t, "at the end", l, 2, last, 2)
	stands(t, "at the end", l, math.MaxInt, 2, 2, last)

	l = made(t, last)
	takes(t, "from 1 on", l, 1, 1, 1)
	noTake(t, "from 1 on", l, 2, math.MaxInt, api.ErrBusy)
	stands(t, "from 1 on", l, math.MaxInt, 1, 1, 1)
	keeps(t, "from 1 on", l, 1, 1, last, 0)
	stands(t, "from 1 on, kept", l, math.MaxInt, 1, 1, last)
}

func TestALeaseOfOneTick(t *testing.T) {
	for _, now := range []int{0, 1, 10, last - 1} {
		l := made(t, 1)
		takes(t, "of one tick", l, 1, now, 1)
		stands(t, "of one tick", l, now, 1, 1, 1)
		noTake(t, "of one tick", l, 2, now, api.ErrBusy)
		takes(t, "of one tick", l, 1, now, 2)
		keeps(t, "of one tick", l, 1, 2, now, 0)
		stands(t, "of one tick", l, now, 1, 2, 1)
		keeps(t, "of one tick", l, 1, 2, now+1, api.ErrStale)
		stands(t, "of one tick", l, now+1, 0, 2, 0)
		takes(t, "of one tick", l, 2, now, 3)
		stands(t, "of one tick", l, now+1, 2, 3, 1)
	}
}
