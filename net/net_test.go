package net_test

import (
	"bytes"
	"fmt"
	"math"
	"testing"

	"corncrib/api"
	"corncrib/net"
	"corncrib/sample"
	"corncrib/wire"
)

// corn tells the message with a number, from 1 to 2 if that is even and from 2 to 1
// if it isn't, of another kind than its neighbours. Of three one has no needle.
func corn(i int) wire.Msg {
	m := wire.Msg{From: 1 + i%2, To: 2 - i%2, Kind: 1 + i%5, Vol: 1 + i%4, Life: i, Id: uint64(i)}
	if m.Kind == wire.Answer {
		m.Code = i % 256
	}
	if i%3 != 0 {
		m.Has, m.N = true, api.Needle{Key: uint64(i), Cookie: uint32(i), Data: sample.Bytes(i % 7)}
	}
	return m
}

// corns tells the messages with these numbers.
func corns(numbers ...int) []wire.Msg {
	l := make([]wire.Msg, len(numbers))
	for k, i := range numbers {
		l[k] = corn(i)
	}
	return l
}

// upTo tells the numbers from 0 on, so many.
func upTo(n int) []int {
	l := make([]int, n)
	for i := range l {
		l[i] = i
	}
	return l
}

// netOf tells a net that these messages were sent on.
func netOf(t *testing.T, l []wire.Msg) *net.Net {
	t.Helper()
	n := net.New()
	for i, m := range l {
		if e := n.Send(m); e != nil || n.Len() != i+1 {
			t.Fatalf("P15.1: Send of message %d: %v, and then Len %d", i, e, n.Len())
		}
	}
	return n
}

// brief tells a message without most of its data, so that a fault is told in one line.
func brief(m wire.Msg) wire.Msg {
	m.N.Data = m.N.Data[:min(len(m.N.Data), 20)]
	return m
}

// holds asks that just these messages are under way, in their order.
func holds(t *testing.T, why string, n *net.Net, want []wire.Msg) {
	t.Helper()
	if n.Len() != len(want) {
		t.Fatalf("P15.2: %s: Len %d; want %d", why, n.Len(), len(want))
	}
	for i, w := range want {
		if m, e := n.Peek(i); e != nil || !wire.Same(m, w) {
			t.Fatalf("P15.1: %s: Peek of %d: %+v, %v; want %+v", why, i, brief(m), e, brief(w))
		}
	}
	if _, e := n.Peek(len(want)); !sample.Is(e, api.ErrNone) {
		t.Fatalf("P15.1: %s: Peek of %d, behind the last one: %v", why, len(want), e)
	}
}

// code asks that an error is of this code, and of no other.
func code(t *testing.T, why string, e error, want api.Code) {
	t.Helper()
	if !sample.Is(e, want) {
		t.Errorf("P15.1: %s: %v; want code %d", why, e, want)
	}
}

// noMsg asks that an error is of this code, and that no message stands beside it.
func noMsg(t *testing.T, why string, m wire.Msg, e error, want api.Code) {
	t.Helper()
	code(t, why, e, want)
	if !wire.Same(m, wire.Msg{}) {
		t.Errorf("P15.1: %s: beside an error %+v", why, brief(m))
	}
}

// far are numbers that nothing has; among them are those that would be right if they
// went round, or were cut to 1, 2 or 4 bytes.
var far = []int{
	math.MinInt, math.MinInt + 1, math.MinInt + 2, -1 << 32, -1<<32 + 1, math.MinInt32, -65536, -65535, -256, -255, -2, -1,
	math.MaxInt32, 1 << 31, math.MaxUint32, 1 << 32, 1<<32 + 1, 1<<32 + 2, 1 << 48, math.MaxInt - 1, math.MaxInt,
}

// refusals are messages that may not be, and why, by what is wrong.
func refusals() map[string]struct {
	m    wire.Msg
	want api.Code
} {
	all := map[string]struct {
		m    wire.Msg
		want api.Code
	}{}
	add := func(why string, want api.Code, change func(m *wire.Msg)) {
		for _, i := range []int{1, 4} {
			m := corn(i)
			change(&m)
			all[fmt.Sprint(why, ", of the kind ", m.Kind)] = struct {
				m    wire.Msg
				want api.Code
			}{m, want}
		}
	}
	add("nothing in it", api.ErrArg, func(m *wire.Msg) { *m = wire.Msg{} })
	add("From below 0", api.ErrArg, func(m *wire.Msg) { m.From = -1 })
	add("From of 256", api.ErrArg, func(m *wire.Msg) { m.From = 256 })
	add("To below 0", api.ErrArg, func(m *wire.Msg) { m.To = -1 })
	add("To of 256", api.ErrArg, func(m *wire.Msg) { m.To = 256 })
	add("the greatest To", api.ErrArg, func(m *wire.Msg) { m.To = math.MaxInt })
	add("the kind 0", api.ErrArg, func(m *wire.Msg) { m.Kind = 0 })
	add("the kind 6", api.ErrArg, func(m *wire.Msg) { m.Kind = 6 })
	add("the volume 0", api.ErrArg, func(m *wire.Msg) { m.Vol = 0 })
	add("the volume 65536", api.ErrArg, func(m *wire.Msg) { m.Vol = 1 << 16 })
	add("a life below 0", api.ErrArg, func(m *wire.Msg) { m.Life = -1 })
	add("a life of 2^31", api.ErrArg, func(m *wire.Msg) { m.Life = 1 << 31 })
	add("a code of who asks", api.ErrArg, func(m *wire.Msg) { m.Kind, m.Code = wire.Get, 1 })
	add("a code of 256", api.ErrArg, func(m *wire.Msg) { m.Kind, m.Code = wire.Answer, 256 })
	add("no needle, but a key", api.ErrArg, func(m *wire.Msg) { m.Has, m.N = false, api.Needle{Key: 1} })
	add("no needle, but data", api.ErrArg, func(m *wire.Msg) { m.Has, m.N = false, api.Needle{Data: []byte{0}} })
	add("gone, with data", api.ErrArg, func(m *wire.Msg) { m.N = api.Needle{Key: 1, Gone: true, Data: []byte{0}} })
	add("data of 4097", api.ErrLong, func(m *wire.Msg) { m.N.Data = make([]byte, 4097) })
	add("gone, with data of 4097", api.ErrLong, func(m *wire.Msg) { m.N.Gone, m.N.Data = true, make([]byte, 4097) })
	add("much data", api.ErrLong, func(m *wire.Msg) { m.N.Data = make([]byte, 1<<16) })
	return all
}

func TestNoNet(t *testing.T) {
	var n *net.Net
	code(t, "Send on no net", n.Send(corn(1)), api.ErrNil)
	for why, x := range refusals() {
		code(t, "Send on no net of what has "+why, n.Send(x.m), api.ErrNil)
	}
	for _, i := range append([]int{0, 1, 4095, 4096}, far...) {
		m, e := n.Take(i)
		noMsg(t, fmt.Sprint("Take of ", i, " on no net"), m, e, api.ErrNil)
		m, e = n.Peek(i)
		noMsg(t, fmt.Sprint("Peek of ", i, " on no net"), m, e, api.ErrNil)
		code(t, fmt.Sprint("Lose of ", i, " on no net"), n.Lose(i), api.ErrNil)
		code(t, fmt.Sprint("Twice of ", i, " on no net"), n.Twice(i), api.ErrNil)
		for _, j := range []int{i, 0, 1, 255, 256, -1} {
			for _, cut := range []bool{true, false} {
				code(t, fmt.Sprint("Cut of ", i, " and ", j, " on no net"), n.Cut(i, j, cut), api.ErrNil)
				code(t, fmt.Sprint("Cut of ", j, " and ", i, " on no net"), n.Cut(j, i, cut), api.ErrNil)
			}
			if n.Apart(i, j) || n.Apart(j, i) {
				t.Errorf("P15.2: Apart of %d and %d on no net", i, j)
			}
		}
	}
	if n.Len() != 0 {
		t.Errorf("P15.2: Len of no net: %d", n.Len())
	}
}

// empties tells nets that hold nothing, by how they came about.
func empties(t *testing.T) map[string]*net.Net {
	t.Helper()
	taken := netOf(t, corns(1))
	lost := netOf(t, corns(1))
	if _, e := taken.Take(0); e != nil {
		t.Errorf("P15.1: Take of the only one: %v", e)
	}
	if e := lost.Lose(0); e != nil {
		t.Errorf("P15.1: Lose of the only one: %v", e)
	}
	return map[string]*net.Net{
		"that New told":          net.New(),
		"that New didn't tell":   {},
		"whose last one came":    taken,
		"whose last one is lost": lost,
	}
}

func TestNothingUnderWay(t *testing.T) {
	for why, n := range empties(t) {
		holds(t, "a net "+why, n, nil)
		for _, i := range append([]int{0, 1, 4095, 4096}, far...) {
			none(t, n, i)
			if n.Len() != 0 {
				t.Errorf("P15.2: a net %s: Len %d behind an error", why, n.Len())
			}
		}
		for a := range 256 {
			for b := range 256 {
				if n.Apart(a, b) {
					t.Fatalf("P15.2: a net %s: Apart of %d and %d", why, a, b)
				}
			}
		}
		// It is as good as another one.
		if e := n.Cut(1, 3, true); e != nil || !n.Apart(3, 1) {
			t.Errorf("P15.2: a net %s: Cut: %v", why, e)
		}
		if e := n.Send(corn(1)); e != nil {
			t.Errorf("P15.1: a net %s: Send: %v", why, e)
		}
		holds(t, "a net "+why, n, corns(1))
	}
}

func TestNewTellsAnotherNet(t *testing.T) {
	a, b := net.New(), net.New()
	a.Send(corn(1))
	a.Cut(1, 2, true)
	holds(t, "another net", b, nil)
	if b.Apart(1, 2) {
		t.Error("P15.1: New: two nets share their cuts")
	}
}

func TestSend(t *testing.T) {
	n := net.New()
	want := corns(upTo(60)...)
	for i, m := range want {
		if e := n.Send(m); e != nil {
			t.Fatalf("P15.1: Send of %+v: %v", m, e)
		}
		holds(t, "behind Send", n, want[:i+1])
	}
}

// edges are messages whose numbers are at their ends, with needles of all sizes.
func edges() []wire.Msg {
	l := []wire.Msg{
		{Kind: wire.Put, Vol: 1},
		{From: 255, To: 255, Kind: wire.Answer, Vol: 65535, Life: math.MaxInt32, Id: math.MaxUint64, Code: 255},
		{From: 0, To: 255, Kind: wire.Lay, Vol: 65535, Life: math.MaxInt32, Id: math.MaxUint64},
		{From: 255, To: 0, Kind: wire.Answer, Vol: 256, Life: 65536, Id: 1 << 32, Code: 128},
	}
	for kind := wire.Put; kind <= wire.Answer; kind++ {
		for _, data := range []int{0, 1, 7, 8, 9, 255, 256, 4095, 4096} {
			m := wire.Msg{From: 3, To: kind, Kind: kind, Vol: 7, Life: 1, Id: uint64(data), Has: true}
			m.N = api.Needle{Key: math.MaxUint64, Cookie: math.MaxUint32, Data: sample.Bytes(data)}
			l = append(l, m)
		}
		l = append(l,
			wire.Msg{From: kind, To: 9, Kind: kind, Vol: 7},
			wire.Msg{From: kind, To: 9, Kind: kind, Vol: 7, N: api.Needle{Data: []byte{}}},
			wire.Msg{From: kind, To: 9, Kind: kind, Vol: 7, Has: true},
			wire.Msg{From: kind, To: 9, Kind: kind, Vol: 7, Has: true, N: api.Needle{Key: 5, Cookie: 6, Gone: true}},
			wire.Msg{From: kind, To: kind, Kind: kind, Vol: 7, Has: true, N: api.Needle{Key: 5, Cookie: 6, Data: []byte("maize")}},
		)
	}
	for code := range 256 {
		l = append(l, wire.Msg{From: 1, To: 2, Kind: wire.Answer, Vol: 1, Code: code})
	}
	return l
}

func TestWhatIsTakenIsAsItWasSent(t *testing.T) {
	l := edges()
	n := netOf(t, l)
	holds(t, "messages at their ends", n, l)
	for i, want := range l {
		if e := n.Twice(0); e != nil {
			t.Fatalf("P15.1: Twice of message %d: %v", i, e)
		}
		if m, e := n.Take(0); e != nil || !wire.Same(m, want) {
			t.Errorf("P15.3: Take of %+v: %+v, %v", brief(want), brief(m), e)
		}
	}
	// The doubles are what is left.
	holds(t, "doubles of messages at their ends", n, l)
	for i := len(l) - 1; i >= 0; i-- {
		if m, e := n.Take(i); e != nil || !wire.Same(m, l[i]) {
			t.Errorf("P15.3: Take of the double of %+v: %+v, %v", brief(l[i]), brief(m), e)
		}
	}
	holds(t, "all that was sent came", n, nil)
}

func TestSendOfWhatIsRefused(t *testing.T) {
	l := corns(1, 2, 3)
	n := netOf(t, l)
	empty := net.New()
	for why, x := range refusals() {
		if e := n.Send(x.m); !sample.Is(e, x.want) || e != wire.Check(x.m) {
			t.Errorf("P15.1: Send of what has %s: %v; want code %d", why, e, x.want)
		}
		holds(t, "behind Send of what has "+why, n, l)
		code(t, "Send of the first one, which has "+why, empty.Send(x.m), x.want)
		holds(t, "behind Send of the first one, which has "+why, empty, nil)
	}
}

func TestSendToItsOwnPlace(t *testing.T) {
	for _, place := range []int{0, 1, 254, 255} {
		m := corn(1)
		m.From, m.To = place, place
		n := netOf(t, []wire.Msg{m})
		if got, e := n.Take(0); e != nil || !wire.Same(got, m) {
			t.Errorf("P15.1: Take of one from %d to itself: %+v, %v", place, got, e)
		}
	}
}

func TestSendOnAFullNet(t *testing.T) {
	l := corns(upTo(4096)...)
	n := netOf(t, l)
	holds(t, "4096 packets", n, l)
	code(t, "Send of packet 4097", n.Send(corn(4096)), api.ErrFull)
	for why, x := range refusals() {
		code(t, "Send of packet 4097, with "+why, n.Send(x.m), x.want)
	}
	holds(t, "4096 packets, behind one more", n, l)
	// Where one is under way no more there is room again, for one.
	for i, gone := range []func() error{
		func() error { return n.Lose(0) },
		func() error { _, e := n.Take(0); return e },
	} {
		if e := gone(); e != nil {
			t.Fatalf("P15.1: way %d to make room: %v", i, e)
		}
		l = append(l[1:], corn(5000+i))
		code(t, "Send, where there is room again", n.Send(corn(5000+i)), 0)
		code(t, "Send, where there is none again", n.Send(corn(6000)), api.ErrFull)
	}
	holds(t, "4096 packets again", n, l)
}

func TestSendOnACutNet(t *testing.T) {
	n := net.New()
	n.Cut(1, 2, true)
	for i, m := range corns(1, 2, 3) {
		code(t, "Send between places that are cut", n.Send(m), 0)
		if n.Len() != i+1 {
			t.Errorf("P15.2: Len %d behind Send of message %d between places that are cut", n.Len(), i)
		}
	}
	holds(t, "between places that are cut", n, corns(1, 2, 3))
}

func TestWhatIsSentIsNobodyElses(t *testing.T) {
	for _, size := range []int{1, 5, 8, 4096} {
		room := append(sample.Bytes(size), 1, 2, 3, 4, 5, 6, 7, 8)
		before := bytes.Clone(room)
		sent := corn(1)
		sent.N.Data = room[:size]
		want := sent
		want.N.Data = bytes.Clone(sent.N.Data)
		n := netOf(t, []wire.Msg{sent})
		n.Twice(0)
		peeked, _ := n.Peek(0)
		taken, _ := n.Take(0)
		last, _ := n.Peek(0)
		sample.Spoil(peeked.N.Data)
		sample.Spoil(last.N.Data)
		if !bytes.Equal(room, before) {
			t.Errorf("P15.1: data of %d: what was handed in, or the room behind, is changed", size)
		}
		if !wire.Same(taken, want) {
			t.Errorf("P15.1: data of %d: what Take tells is somebody else's", size)
		}
		holds(t, "behind changes of what Peek told", n, []wire.Msg{want})
		sample.Spoil(taken.N.Data)
		holds(t, "behind changes of what Take told of its double", n, []wire.Msg{want})
		sample.Spoil(room)
		holds(t, "behind changes of what was handed in", n, []wire.Msg{want})
		n.Twice(0)
		taken, _ = n.Take(1)
		sample.Spoil(taken.N.Data)
		holds(t, "behind changes of a double that came", n, []wire.Msg{want})
		if m, e := n.Take(0); e != nil || !wire.Same(m, want) {
			t.Errorf("P15.3: data of %d: Take: %+v, %v", size, brief(m), e)
		}
	}
}
