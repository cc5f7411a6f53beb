package net_test

import (
	"fmt"
	"slices"
	"testing"

	"corncrib/api"
	"corncrib/net"
	"corncrib/sample"
	"corncrib/wire"
)

// none asks that there is no packet i, whatever is asked of it.
func none(t *testing.T, n *net.Net, i int) {
	t.Helper()
	m, e := n.Take(i)
	noMsg(t, fmt.Sprint("Take of ", i), m, e, api.ErrNone)
	m, e = n.Peek(i)
	noMsg(t, fmt.Sprint("Peek of ", i), m, e, api.ErrNone)
	code(t, fmt.Sprint("Lose of ", i), n.Lose(i), api.ErrNone)
	code(t, fmt.Sprint("Twice of ", i), n.Twice(i), api.ErrNone)
}

func TestTheExample(t *testing.T) {
	for kind := wire.Put; kind <= wire.Answer; kind++ {
		m := wire.Msg{From: 9, To: 2, Kind: kind, Vol: 3, Life: 1, Id: 40, Has: true, N: api.Needle{Key: 7, Cookie: 5, Data: []byte("maize")}}
		n := net.New()
		code(t, "Send", n.Send(m), 0)
		code(t, "Twice of 0", n.Twice(0), 0)
		code(t, "Lose of 0", n.Lose(0), 0)
		if got, e := n.Take(0); e != nil || !wire.Same(got, m) {
			t.Errorf("P15.1: Take of 0: %+v, %v", got, e)
		}
		holds(t, "behind the example", n, nil)
	}
}

func TestNumbersOfNoPacket(t *testing.T) {
	for _, size := range []int{0, 1, 2, 5, 4096} {
		l := corns(upTo(size)...)
		n := netOf(t, l)
		for _, i := range append([]int{size, size + 1, 2 * size, 2*size + 1, -size - 1, 65536 + size, 1<<32 + size}, far...) {
			none(t, n, i)
			if n.Len() != size {
				t.Fatalf("P15.2: Len %d behind calls of no packet %d; want %d", n.Len(), i, size)
			}
		}
		holds(t, "behind calls of no packet", n, l)
	}
}

// without tells the numbers from 0 on, so many, but for one.
func without(n, i int) []int {
	return slices.Delete(upTo(n), i, i+1)
}

func TestTakeOfEachPlace(t *testing.T) {
	for _, size := range []int{1, 2, 3, 7} {
		for i := range size {
			n := netOf(t, corns(upTo(size)...))
			if m, e := n.Take(i); e != nil || !wire.Same(m, corn(i)) {
				t.Errorf("P15.1: Take of %d of %d: %+v, %v", i, size, m, e)
			}
			holds(t, fmt.Sprint("behind Take of ", i, " of ", size), n, corns(without(size, i)...))
		}
	}
}

func TestLoseOfEachPlace(t *testing.T) {
	for _, size := range []int{1, 2, 3, 7} {
		for i := range size {
			n := netOf(t, corns(upTo(size)...))
			code(t, fmt.Sprint("Lose of ", i, " of ", size), n.Lose(i), 0)
			holds(t, fmt.Sprint("behind Lose of ", i, " of ", size), n, corns(without(size, i)...))
		}
	}
}

func TestPeekOfEachPlace(t *testing.T) {
	for _, size := range []int{1, 2, 3, 7} {
		n := netOf(t, corns(upTo(size)...))
		for i := range size {
			for range 2 {
				if m, e := n.Peek(i); e != nil || !wire.Same(m, corn(i)) {
					t.Errorf("P15.1: Peek of %d of %d: %+v, %v", i, size, m, e)
				}
			}
			holds(t, fmt.Sprint("behind Peek of ", i, " of ", size), n, corns(upTo(size)...))
		}
	}
}

func TestTwiceOfEachPlace(t *testing.T) {
	for _, size := range []int{1, 2, 3, 7} {
		for i := range size {
			n := netOf(t, corns(upTo(size)...))
			code(t, fmt.Sprint("Twice of ", i, " of ", size), n.Twice(i), 0)
			holds(t, fmt.Sprint("behind Twice of ", i, " of ", size), n, corns(append(upTo(size), i)...))
			// A double may be doubled, too.
			code(t, fmt.Sprint("Twice of ", size, " of ", size+1), n.Twice(size), 0)
			holds(t, fmt.Sprint("behind Twice of ", size, " of ", size+1), n, corns(append(upTo(size), i, i)...))
		}
	}
}

func TestEachOfTwoByItself(t *testing.T) {
	for _, first := range []int{1, 3} {
		second := 4 - first
		for why, gone := range ways() {
			for how, then := range ways() {
				n := netOf(t, corns(0, 1, 2))
				code(t, "Twice of 1", n.Twice(1), 0)
				gone(t, n, first, corn(1))
				// What stands behind one that is gone has the number below its own.
				left, want := second, corns(0, 1, 2)
				if first < second {
					left, want = second-1, corns(0, 2, 1)
				}
				holds(t, fmt.Sprint(why, " of ", first), n, want)
				then(t, n, left, corn(1))
				holds(t, fmt.Sprint(why, " of ", first, " and ", how, " of ", left), n, corns(0, 2))
			}
		}
	}
}

// ways are those in which a packet is under way no more.
func ways() map[string]func(t *testing.T, n *net.Net, i int, want wire.Msg) {
	return map[string]func(t *testing.T, n *net.Net, i int, want wire.Msg){
		"Take": func(t *testing.T, n *net.Net, i int, want wire.Msg) {
			t.Helper()
			if m, e := n.Take(i); e != nil || !wire.Same(m, want) {
				t.Errorf("P15.1: Take of %d: %+v, %v; want %+v", i, m, e, want)
			}
		},
		"Lose": func(t *testing.T, n *net.Net, i int, want wire.Msg) {
			t.Helper()
			code(t, fmt.Sprint("Lose of ", i), n.Lose(i), 0)
		},
	}
}

func TestTwiceOnAFullNet(t *testing.T) {
	l := corns(upTo(4095)...)
	n := netOf(t, l)
	code(t, "Twice of 7 of 4095", n.Twice(7), 0)
	l = append(l, corn(7))
	holds(t, "behind Twice of 7 of 4095", n, l)
	for _, i := range []int{0, 1, 2047, 4094, 4095} {
		code(t, fmt.Sprint("Twice of ", i, " of 4096"), n.Twice(i), api.ErrFull)
	}
	for _, i := range append([]int{4096, 4097}, far...) {
		code(t, fmt.Sprint("Twice of ", i, " of 4096"), n.Twice(i), api.ErrNone)
	}
	holds(t, "behind Twice on a full net", n, l)
	code(t, "Send behind Twice on a full net", n.Send(corn(1)), api.ErrFull)
	for why, gone := range ways() {
		gone(t, n, 0, l[0])
		code(t, "Twice behind "+why+" on a full net", n.Twice(4094), 0)
		l = append(l[1:], l[len(l)-1])
		code(t, "Twice twice behind "+why+" on a full net", n.Twice(4094), api.ErrFull)
	}
	holds(t, "behind Twice on a net that was full", n, l)
}

func TestAllComeInAnyOrder(t *testing.T) {
	for _, step := range []int{1, 2, 3, 5, 7, 10} {
		left := upTo(11)
		n := netOf(t, corns(left...))
		for at := step; len(left) > 0; at += step {
			i := at % len(left)
			if m, e := n.Take(i); e != nil || !wire.Same(m, corn(left[i])) {
				t.Errorf("P15.3: Take of %d of %d: %+v, %v; want %+v", i, len(left), m, e, corn(left[i]))
			}
			left = slices.Delete(left, i, i+1)
			holds(t, fmt.Sprint("each ", step, ", ", len(left), " left"), n, corns(left...))
		}
		none(t, n, 0)
	}
}

func TestAlikeOnesAreTwoPackets(t *testing.T) {
	n := netOf(t, corns(1, 1, 1))
	code(t, "Lose of one of three that are alike", n.Lose(1), 0)
	holds(t, "behind Lose of one of three that are alike", n, corns(1, 1))
	if m, e := n.Take(1); e != nil || !wire.Same(m, corn(1)) {
		t.Errorf("P15.1: Take of one of two that are alike: %+v, %v", m, e)
	}
	holds(t, "behind Take of one of two that are alike", n, corns(1))
}

func TestFullNetRunsEmpty(t *testing.T) {
	n := netOf(t, corns(upTo(4096)...))
	for i := range 4096 {
		if m, e := n.Take(0); e != nil || !wire.Same(m, corn(i)) || n.Len() != 4095-i {
			t.Fatalf("P15.3: Take of message %d: %+v, %v, and then Len %d", i, m, e, n.Len())
		}
	}
	m, e := n.Take(0)
	noMsg(t, "Take of all that came", m, e, api.ErrNone)
	code(t, "Send behind it", n.Send(corn(5)), 0)
	holds(t, "a net that was full", n, corns(5))
	if !sample.Is(n.Lose(1), api.ErrNone) {
		t.Error("P15.1: Lose of what came long ago")
	}
}
