package net_test

import (
	"fmt"
	"testing"

	"corncrib/api"
	"corncrib/net"
	"corncrib/sample"
	"corncrib/wire"
)

// pairs are places that are cut from each other, in one of the two orders.
type pairs [][2]int

// has tells whether two places are among them.
func (p pairs) has(a, b int) bool {
	for _, x := range p {
		if x == [2]int{a, b} || x == [2]int{b, a} {
			return true
		}
	}
	return false
}

// places are those that the tests ask about; some of them no net has.
var places = append([]int{0, 1, 2, 3, 4, 9, 100, 101, 127, 128, 200, 253, 254, 255, 256, 257, 258, 511, 512, 65536, 65537}, far...)

// cuts asks that just these places are cut from each other.
func cuts(t *testing.T, why string, n *net.Net, want pairs) {
	t.Helper()
	for _, a := range places {
		for _, b := range places {
			if n.Apart(a, b) != want.has(a, b) {
				t.Fatalf("P15.2: %s: Apart of %d and %d: %v", why, a, b, n.Apart(a, b))
			}
		}
	}
}

// cut cuts, or joins, and asks that there is no error.
func cut(t *testing.T, n *net.Net, a, b int, cut bool) {
	t.Helper()
	if e := n.Cut(a, b, cut); e != nil {
		t.Fatalf("P15.2: Cut of %d and %d, %v: %v", a, b, cut, e)
	}
}

func TestCutOfAllPairs(t *testing.T) {
	n := net.New()
	for a := range 256 {
		for b := range a {
			if n.Apart(a, b) || n.Apart(b, a) {
				t.Fatalf("P15.2: Apart of %d and %d ahead of their cut", a, b)
			}
			cut(t, n, a, b, true)
			if !n.Apart(a, b) || !n.Apart(b, a) {
				t.Fatalf("P15.2: Apart of %d and %d behind their cut", a, b)
			}
		}
	}
	for a := range 256 {
		for b := a; b < 256; b++ {
			if n.Apart(a, b) != (a != b) || n.Apart(b, a) != (a != b) {
				t.Fatalf("P15.2: Apart of %d and %d, with all cut: %v", a, b, n.Apart(a, b))
			}
			if a == b {
				continue
			}
			cut(t, n, a, b, false)
			if n.Apart(a, b) || n.Apart(b, a) {
				t.Fatalf("P15.2: Apart of %d and %d behind their join", a, b)
			}
		}
	}
	cuts(t, "all joined", n, nil)
}

func TestCutOfOnePairCutsNoOther(t *testing.T) {
	for _, x := range (pairs{{0, 1}, {0, 255}, {254, 255}, {1, 2}, {127, 128}, {9, 100}}) {
		for range 2 {
			n := net.New()
			cut(t, n, x[0], x[1], true)
			for a := range 256 {
				for b := range 256 {
					if n.Apart(a, b) != (pairs{x}).has(a, b) {
						t.Fatalf("P15.2: Apart of %d and %d, with %v cut: %v", a, b, x, n.Apart(a, b))
					}
				}
			}
			cuts(t, fmt.Sprint(x, " cut"), n, pairs{x})
			x[0], x[1] = x[1], x[0]
		}
	}
}

func TestCutTwiceAndInEitherOrder(t *testing.T) {
	for _, x := range (pairs{{1, 2}, {2, 1}, {0, 255}, {255, 0}}) {
		a, b := x[0], x[1]
		for orders := range 8 {
			// Each call has the places in one of the two orders.
			turned := func(call int, cutting bool) func(n *net.Net) {
				return func(n *net.Net) {
					if orders>>call&1 == 1 {
						cut(t, n, b, a, cutting)
					} else {
						cut(t, n, a, b, cutting)
					}
				}
			}
			n := net.New()
			turned(0, true)(n)
			cuts(t, "cut", n, pairs{x})
			turned(1, true)(n)
			cuts(t, "cut twice", n, pairs{x})
			turned(2, false)(n)
			cuts(t, "cut twice, joined once", n, nil)
			turned(0, false)(n)
			cuts(t, "joined twice", n, nil)
			turned(1, true)(n)
			cuts(t, "cut again", n, pairs{x})
		}
	}
}

func TestJoinOfWhatWasNeverCut(t *testing.T) {
	for why, n := range empties(t) {
		cut(t, n, 1, 2, false)
		cut(t, n, 255, 0, false)
		cuts(t, "a net "+why+" with a join", n, nil)
		cut(t, n, 1, 3, true)
		cut(t, n, 1, 2, false)
		cut(t, n, 2, 3, false)
		cut(t, n, 3, 0, false)
		cuts(t, "a net "+why+" with joins of others", n, pairs{{1, 3}})
	}
}

func TestSeveralPairsAtOnce(t *testing.T) {
	n := net.New()
	all := pairs{{1, 2}, {2, 3}, {1, 4}, {0, 1}, {255, 1}, {3, 4}, {100, 101}}
	for i, x := range all {
		cut(t, n, x[0], x[1], true)
		cuts(t, fmt.Sprint(i+1, " cut"), n, all[:i+1])
	}
	// That 1 is cut from 2, and 2 from 3, says nothing of 1 and 3.
	if n.Apart(1, 3) || n.Apart(2, 4) || n.Apart(0, 255) {
		t.Error("P15.2: Apart: cuts go on over a place in common")
	}
	for i, x := range all {
		cut(t, n, x[1], x[0], false)
		cuts(t, fmt.Sprint(i+1, " joined"), n, all[i+1:])
	}
}

func TestCutOfPlacesThatNoNetHas(t *testing.T) {
	n := netOf(t, corns(0, 1, 2))
	cut(t, n, 0, 255, true)
	cut(t, n, 1, 2, true)
	want := pairs{{0, 255}, {1, 2}}
	no := append([]int{256, 257, 258, 511, 512, 65535, 65536, 65537}, far...)
	for _, a := range no {
		for _, b := range append([]int{0, 1, 2, 3, 254, 255}, no...) {
			for _, cutting := range []bool{true, false} {
				code(t, fmt.Sprint("Cut of ", a, " and ", b), n.Cut(a, b, cutting), api.ErrArg)
				code(t, fmt.Sprint("Cut of ", b, " and ", a), n.Cut(b, a, cutting), api.ErrArg)
			}
		}
		cuts(t, fmt.Sprint("behind Cut of ", a), n, want)
	}
	holds(t, "behind Cut of places that no net has", n, corns(0, 1, 2))
}

func TestCutOfOnePlace(t *testing.T) {
	n := netOf(t, corns(0, 1, 2))
	cut(t, n, 1, 2, true)
	for a := range 256 {
		for _, cutting := range []bool{true, false} {
			code(t, fmt.Sprint("Cut of ", a, " from itself"), n.Cut(a, a, cutting), api.ErrArg)
		}
		if n.Apart(a, a) {
			t.Errorf("P15.2: Apart of %d and itself", a)
		}
	}
	cuts(t, "behind Cut of one place", n, pairs{{1, 2}})
	holds(t, "behind Cut of one place", n, corns(0, 1, 2))
	// The net that holds nothing refuses them, too.
	code(t, "Cut of one place, ahead of all others", net.New().Cut(5, 5, true), api.ErrArg)
	code(t, "Cut of 255 and 256, ahead of all others", net.New().Cut(255, 256, true), api.ErrArg)
}

func TestCutLeavesThePackets(t *testing.T) {
	l := corns(upTo(5)...)
	n := netOf(t, l)
	for _, cutting := range []bool{true, true, false, false} {
		cut(t, n, 1, 2, cutting)
		holds(t, "behind Cut", n, l)
	}
}

func TestTakeOfWhatIsHeldBack(t *testing.T) {
	// Messages 0, 2, 4 go from 1 to 2, and 1, 3 from 2 to 1.
	for _, x := range (pairs{{1, 2}, {2, 1}}) {
		l := corns(upTo(5)...)
		n := netOf(t, l)
		cut(t, n, x[0], x[1], true)
		for i := range l {
			m, e := n.Take(i)
			noMsg(t, fmt.Sprint("Take of ", i, ", which is held back"), m, e, api.ErrWait)
			holds(t, fmt.Sprint("behind Take of ", i, ", which is held back"), n, l)
		}
		for _, i := range append([]int{len(l), len(l) + 1}, far...) {
			none(t, n, i)
		}
		cuts(t, "behind Take of what is held back", n, pairs{{1, 2}})
		cut(t, n, x[1], x[0], false)
		for _, want := range l {
			if m, e := n.Take(0); e != nil || !wire.Same(m, want) {
				t.Errorf("P15.3: Take behind the join: %+v, %v; want %+v", m, e, want)
			}
		}
		holds(t, "behind Take behind the join", n, nil)
	}
}

func TestOtherCutsHoldNothingBack(t *testing.T) {
	l := corns(upTo(4)...)
	own := corn(1)
	own.From, own.To = 1, 1
	l = append(l, own)
	n := netOf(t, l)
	for _, x := range (pairs{{1, 3}, {2, 3}, {0, 1}, {0, 2}, {1, 255}, {255, 2}, {3, 4}}) {
		cut(t, n, x[0], x[1], true)
	}
	for i, want := range l {
		if m, e := n.Take(0); e != nil || !wire.Same(m, want) {
			t.Errorf("P15.1: Take of %d, with other places cut: %+v, %v", i, m, e)
		}
	}
	holds(t, "with other places cut", n, nil)
}

func TestOneIsHeldBackAndOthersCome(t *testing.T) {
	held := wire.Msg{From: 0, To: 255, Kind: wire.Get, Vol: 1}
	back := wire.Msg{From: 255, To: 0, Kind: wire.Answer, Vol: 1, Code: 8}
	free := wire.Msg{From: 0, To: 254, Kind: wire.Lay, Vol: 1}
	n := netOf(t, []wire.Msg{held, free, back, free})
	cut(t, n, 0, 255, true)
	for _, i := range []int{0, 2} {
		m, e := n.Take(i)
		noMsg(t, fmt.Sprint("Take of ", i, ", which is held back"), m, e, api.ErrWait)
	}
	for _, i := range []int{3, 1} {
		if m, e := n.Take(i); e != nil || !wire.Same(m, free) {
			t.Errorf("P15.1: Take of %d, with another one held back: %+v, %v", i, m, e)
		}
	}
	holds(t, "what is held back", n, []wire.Msg{held, back})
	cut(t, n, 255, 0, false)
	if m, e := n.Take(1); e != nil || !wire.Same(m, back) {
		t.Errorf("P15.1: Take behind the join: %+v, %v", m, e)
	}
	holds(t, "behind the join", n, []wire.Msg{held})
}

func TestWhatIsHeldBackIsSeenLostAndDoubled(t *testing.T) {
	n := netOf(t, corns(0, 1, 2))
	cut(t, n, 2, 1, true)
	for i := range 3 {
		if m, e := n.Peek(i); e != nil || !wire.Same(m, corn(i)) {
			t.Errorf("P15.1: Peek of %d, which is held back: %+v, %v", i, m, e)
		}
	}
	code(t, "Twice of 1, which is held back", n.Twice(1), 0)
	holds(t, "behind Twice of what is held back", n, corns(0, 1, 2, 1))
	code(t, "Lose of 0, which is held back", n.Lose(0), 0)
	holds(t, "behind Lose of what is held back", n, corns(1, 2, 1))
	// The double is held back as the other one is.
	for i := range 3 {
		m, e := n.Take(i)
		noMsg(t, fmt.Sprint("Take of ", i, " behind Twice and Lose"), m, e, api.ErrWait)
	}
	cut(t, n, 2, 1, false)
	if m, e := n.Take(2); e != nil || !wire.Same(m, corn(1)) {
		t.Errorf("P15.3: Take of the double behind the join: %+v, %v", m, e)
	}
	if m, e := n.Take(0); e != nil || !wire.Same(m, corn(1)) {
		t.Errorf("P15.3: Take of what was doubled behind the join: %+v, %v", m, e)
	}
	holds(t, "behind the join", n, corns(2))
}

func TestTakeOnAFullNetThatIsCut(t *testing.T) {
	l := corns(upTo(4096)...)
	n := netOf(t, l)
	cut(t, n, 1, 2, true)
	for _, i := range []int{0, 1, 4095} {
		m, e := n.Take(i)
		noMsg(t, fmt.Sprint("Take of ", i, " of 4096"), m, e, api.ErrWait)
	}
	if !sample.Is(n.Twice(0), api.ErrFull) || !sample.Is(n.Send(corn(1)), api.ErrFull) {
		t.Error("P15.1: what is held back takes no room")
	}
	holds(t, "a full net that is cut", n, l)
}
