package lease_test

import (
	"fmt"
	"math"
	"testing"

	"corncrib/api"
	"corncrib/lease"
	"corncrib/sample"
)

const last = 1 << 30 // the end of time, and the most ticks

// code asks that an error is of this code, and of no other.
func code(t *testing.T, why string, e error, want api.Code) {
	t.Helper()
	if !sample.Is(e, want) {
		t.Errorf("P18.1: %s: %v; want code %d", why, e, want)
	}
}

// made tells a lease of so many ticks.
func made(t *testing.T, ticks int) *lease.Lease {
	t.Helper()
	l, e := lease.New(ticks)
	if e != nil || l == nil {
		t.Fatalf("P18.1: New of %d: %v, %v", ticks, l, e)
	}
	return l
}

// takes asks that Take tells this epoch.
func takes(t *testing.T, why string, l *lease.Lease, who, now, want int) {
	t.Helper()
	if epoch, e := l.Take(who, now); e != nil || epoch != want {
		t.Errorf("P18.1: %s: Take of %d at %d: %d, %v; want %d", why, who, now, epoch, e, want)
	}
}

// noTake asks that Take tells an error of this code, and 0 beside it.
func noTake(t *testing.T, why string, l *lease.Lease, who, now int, want api.Code) {
	t.Helper()
	if epoch, e := l.Take(who, now); !sample.Is(e, want) || epoch != 0 {
		t.Errorf("P18.1: %s: Take of %d at %d: %d, %v; want 0, code %d", why, who, now, epoch, e, want)
	}
}

// keeps asks that Keep tells an error of this code.
func keeps(t *testing.T, why string, l *lease.Lease, who, epoch, now int, want api.Code) {
	t.Helper()
	if e := l.Keep(who, epoch, now); !sample.Is(e, want) {
		t.Errorf("P18.1: %s: Keep of %d, %d at %d: %v; want code %d", why, who, epoch, now, e, want)
	}
}

// drops asks that Drop tells an error of this code.
func drops(t *testing.T, why string, l *lease.Lease, who, epoch, now int, want api.Code) {
	t.Helper()
	if e := l.Drop(who, epoch, now); !sample.Is(e, want) {
		t.Errorf("P18.1: %s: Drop of %d, %d at %d: %v; want code %d", why, who, epoch, now, e, want)
	}
}

// stands asks what Holder and Left tell: with 0 left it is nobody's.
func stands(t *testing.T, why string, l *lease.Lease, now, who, epoch, left int) {
	t.Helper()
	for range 2 {
		if w, e, held := l.Holder(now); w != who || e != epoch || held != (left > 0) {
			t.Errorf("P18.2: %s: Holder at %d: %d, %d, %v; want %d, %d, %v", why, now, w, e, held, who, epoch, left > 0)
		}
		if n := l.Left(now); n != left {
			t.Errorf("P18.2: %s: Left at %d: %d; want %d", why, now, n, left)
		}
	}
}

// far are numbers that are far off, among them those that would be small if they
// went round, or were cut to 1, 2 or 4 bytes.
var far = []int{
	math.MinInt, math.MinInt + 1, math.MinInt + 5, -1 << 32, -1<<32 + 1, math.MinInt32, -last - 1, -last, -65536, -65535, -256, -255, -5, -1,
	256, 257, 261, 511, 65535, 65536, 65537, math.MaxInt32, 1 << 31, math.MaxUint32, 1 << 32, 1<<32 + 1, 1 << 62, math.MaxInt - 1, math.MaxInt,
}

// whos are such as may hold a lease.
var whos = []int{0, 1, 2, 3, 127, 128, 254, 255}

// lengths are ticks that a lease may last.
var lengths = []int{1, 2, 3, 5, 255, 256, 65536, last/2 - 1, last / 2, last - 1, last}

func TestNew(t *testing.T) {
	for _, ticks := range lengths {
		why := fmt.Sprint("New of ", ticks)
		for _, now := range []int{math.MinInt, -1, 0, 1, ticks - 1, ticks, last, math.MaxInt} {
			stands(t, why, made(t, ticks), now, 0, 0, 0)
			l := made(t, ticks)
			takes(t, why, l, 7, now, 1)
			stands(t, why, l, now, 7, 1, ticks)
		}
	}
}

func TestNewOfWhatCanNotBe(t *testing.T) {
	for _, ticks := range append([]int{0, last + 1, last + 2, 2 * last, 3 * last, 1<<32 + last}, far...) {
		if ticks >= 1 && ticks <= last {
			continue
		}
		l, e := lease.New(ticks)
		code(t, fmt.Sprint("New of ", ticks), e, api.ErrArg)
		if l != nil {
			t.Errorf("P18.1: New of %d tells a lease beside the error", ticks)
		}
	}
}

func TestNewTellsAnotherLease(t *testing.T) {
	a, b := made(t, 5), made(t, 5)
	takes(t, "one lease", a, 1, 10, 1)
	stands(t, "another lease", b, 0, 0, 0, 0)
	takes(t, "another lease", b, 2, 3, 1)
	stands(t, "one lease", a, 10, 1, 1, 5)
	stands(t, "another lease", b, 3, 2, 1, 5)
	drops(t, "one lease", a, 1, 1, 10, 0)
	stands(t, "another lease", b, 7, 2, 1, 1)
}

func TestNoLease(t *testing.T) {
	var l *lease.Lease
	nows := append([]int{0, 1, 10, last, last + 1}, far...)
	for _, who := range append([]int{0, 1, 255}, far...) {
		for _, now := range nows {
			noTake(t, "no lease", l, who, now, api.ErrNil)
			for _, epoch := range []int{0, 1, 2, -1, math.MinInt, math.MaxInt} {
				keeps(t, "no lease", l, who, epoch, now, api.ErrNil)
				drops(t, "no lease", l, who, epoch, now, api.ErrNil)
			}
		}
	}
	for _, now := range nows {
		stands(t, "no lease", l, now, 0, 0, 0)
	}
}

func TestLeaseThatNewDidNotMake(t *testing.T) {
	// The chapter says nothing of it, but R1 does: no call panics. That it is held
	// at no tick is the least that can be said of it.
	l := &lease.Lease{}
	for i, now := range append([]int{0, 1, 10, last, last + 1}, far...) {
		noTake(t, "a lease that New didn't make", l, 256, now, api.ErrArg)
		keeps(t, "a lease that New didn't make", l, 1, i, now, api.ErrStale)
		drops(t, "a lease that New didn't make", l, 1, i, now, api.ErrStale)
		takes(t, "a lease that New didn't make", l, 1, now, i+1)
		stands(t, "a lease that New didn't make", l, now, 0, i+1, 0)
	}
}

func TestExample(t *testing.T) {
	l := made(t, 5)
	takes(t, "the example", l, 1, 10, 1)
	noTake(t, "the example", l, 2, 14, api.ErrBusy)
	takes(t, "the example", l, 2, 15, 2)
	stands(t, "the example", l, 15, 2, 2, 5)
	// Each tick by itself, too: what was asked ahead of it is no part of it.
	for now := 10; now < 20; now++ {
		l := made(t, 5)
		takes(t, "the example", l, 1, 10, 1)
		if now < 15 {
			noTake(t, "the example", l, 2, now, api.ErrBusy)
			stands(t, "the example", l, now, 1, 1, 15-now)
			continue
		}
		takes(t, "the example", l, 2, now, 2)
		stands(t, "the example", l, now, 2, 2, 5)
	}
}

func TestExampleOfTheReadme(t *testing.T) {
	l := made(t, 5)
	takes(t, "the README", l, 1, 10, 1)
	noTake(t, "the README", l, 2, 14, api.ErrBusy)
	keeps(t, "the README", l, 1, 1, 14, 0)
	stands(t, "the README", l, 16, 1, 1, 3)
	drops(t, "the README", l, 1, 1, 16, 0)
	stands(t, "the README", l, 16, 0, 1, 0)
}
