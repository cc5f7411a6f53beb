package net_test

import (
	"fmt"
	"slices"
	"testing"

	"corncrib/api"
	"corncrib/net"
	"corncrib/sample"
	"corncrib/wire"
)

// model is a net in other words: messages, and what is cut written down both ways.
// What it is asked it tells by its code.
type model struct {
	l   []wire.Msg
	cut map[[2]int]int
}

func (x *model) code(i int) api.Code {
	if i < 0 || i >= len(x.l) {
		return api.ErrNone
	}
	return 0
}

func (x *model) send(m wire.Msg) api.Code {
	if e := wire.Check(m); e != nil {
		return e.(api.Code)
	}
	if len(x.l) == 4096 {
		return api.ErrFull
	}
	x.l = append(x.l, m)
	return 0
}

func (x *model) take(i int) (wire.Msg, api.Code) {
	if c := x.code(i); c != 0 {
		return wire.Msg{}, c
	}
	m := x.l[i]
	if x.cut[[2]int{m.From, m.To}] > 0 {
		return wire.Msg{}, api.ErrWait
	}
	return m, x.lose(i)
}

func (x *model) lose(i int) api.Code {
	if c := x.code(i); c != 0 {
		return c
	}
	x.l = slices.Concat(x.l[:i], x.l[i+1:])
	return 0
}

func (x *model) twice(i int) api.Code {
	if c := x.code(i); c != 0 {
		return c
	}
	return x.send(x.l[i])
}

func (x *model) sever(a, b int, cut bool) api.Code {
	if a < 0 || a > 255 || b < 0 || b > 255 || a == b {
		return api.ErrArg
	}
	n := 0
	if cut {
		n = 1
	}
	x.cut[[2]int{a, b}], x.cut[[2]int{b, a}] = n, n
	return 0
}

const callSize = 4 // bytes of a call

// both are a net and its model.
type both struct {
	n *net.Net
	x model
}

// place tells one of few places, among them two that no net has.
func place(b byte) int {
	return [...]int{0, 1, 2, 3, 254, 255, 256, -1}[b%8]
}

// message tells a message, as bytes say it; of some that Check refuses.
func message(call []byte) wire.Msg {
	m := corn(int(call[3]))
	m.From, m.To = place(call[1]), place(call[2])
	return m
}

// do does a call, as bytes say it, and tells what it told wrongly.
func (b *both) do(call []byte) string {
	// One of those under way, or one next to them.
	i := int(call[1])%(len(b.x.l)+3) - 1
	var e error
	var want api.Code
	var m, wantMsg wire.Msg
	switch call[0] % 8 {
	case 0, 1:
		e, want = b.n.Send(message(call)), b.x.send(message(call))
	case 2, 3:
		m, e = b.n.Take(i)
		wantMsg, want = b.x.take(i)
	case 4:
		e, want = b.n.Lose(i), b.x.lose(i)
	case 5:
		e, want = b.n.Twice(i), b.x.twice(i)
	case 6:
		e, want = b.n.Cut(place(call[1]), place(call[2]), call[3]%2 == 0), b.x.sever(place(call[1]), place(call[2]), call[3]%2 == 0)
	default:
		m, e = b.n.Peek(i)
		if want = b.x.code(i); want == 0 {
			wantMsg = b.x.l[i]
		}
	}
	if !sample.Is(e, want) || !wire.Same(m, wantMsg) {
		return fmt.Sprintf("%+v, %v; want %+v, code %d", m, e, wantMsg, want)
	}
	return b.apart()
}

// apart tells where the net isn't as its model is.
func (b *both) apart() string {
	if b.n.Len() != len(b.x.l) {
		return fmt.Sprint("Len ", b.n.Len(), "; want ", len(b.x.l))
	}
	for i, want := range b.x.l {
		if m, e := b.n.Peek(i); e != nil || !wire.Same(m, want) {
			return fmt.Sprintf("then Peek of %d: %+v, %v; want %+v", i, m, e, want)
		}
	}
	for p := range byte(8) {
		for q := range byte(8) {
			if got := b.n.Apart(place(p), place(q)); got != (b.x.cut[[2]int{place(p), place(q)}] > 0) {
				return fmt.Sprint("then Apart of ", place(p), " and ", place(q), ": ", got)
			}
		}
	}
	return ""
}

// run does one call behind the other.
func run(t *testing.T, script []byte) {
	t.Helper()
	b := both{n: net.New(), x: model{cut: map[[2]int]int{}}}
	for i, call := range slices.Collect(slices.Chunk(script, callSize)) {
		if len(call) < callSize {
			return
		}
		if wrong := b.do(call); wrong != "" {
			t.Fatalf("P15.1 to P15.3: call %d, of the bytes %v: %s", i, call, wrong)
		}
	}
}

func TestScripts(t *testing.T) {
	for n := range 60 {
		run(t, sample.Bytes(callSize*(100+10*n)))
	}
}

func FuzzNet(f *testing.F) {
	f.Add([]byte{0, 0, 1, 1, 5, 1, 0, 0, 4, 1, 0, 0, 2, 1, 0, 0})
	f.Add([]byte{0, 0, 1, 1, 0, 1, 0, 2, 6, 1, 0, 0, 2, 1, 0, 0, 6, 0, 1, 1, 2, 1, 0, 0})
	f.Add(sample.Bytes(callSize * 40))
	f.Fuzz(run)
}
