package wire_test

import (
	"bytes"
	"math"
	"testing"

	"corncrib/api"
	"corncrib/sample"
	"corncrib/wire"
)

// anything are messages as they come, those among them that Check refuses.
func anything() []wire.Msg {
	l := append(msgs(), wire.Msg{}, wire.Msg{
		From: math.MinInt, To: math.MaxInt, Kind: math.MinInt, Vol: math.MaxInt, Life: math.MinInt, Id: math.MaxUint64, Code: math.MaxInt,
	})
	for _, m := range []wire.Msg{get7(), bare7(), answer7()} {
		for _, f := range fields() {
			for _, n := range f.no {
				bad := m
				*f.of(&bad) = n
				l = append(l, bad)
			}
		}
		for _, n := range far {
			bad := m
			bad.Kind = n
			l = append(l, bad)
			bad = m
			bad.Code = n
			l = append(l, bad)
		}
		for _, x := range refusals {
			m.N = x.n
			m.Has = true
			l = append(l, m)
			m.Has = false
			l = append(l, m)
		}
	}
	return l
}

// apart asks that two messages aren't alike, whichever comes first.
func apart(t *testing.T, why string, a, b wire.Msg) {
	t.Helper()
	if wire.Same(a, b) || wire.Same(b, a) {
		t.Errorf("P14.1: Same: alike but for %s: %+v, %+v", why, brief(a), brief(b))
	}
}

func TestSameOfTheSame(t *testing.T) {
	for _, a := range anything() {
		b := a
		b.N.Data = bytes.Clone(a.N.Data)
		if !wire.Same(a, b) || !wire.Same(b, a) || !wire.Same(a, a) {
			t.Errorf("P14.1: Same: %+v isn't alike to itself", brief(a))
		}
	}
}

func TestSameLooksAtAll(t *testing.T) {
	for _, a := range starts() {
		for _, step := range []int{1, -1, 256, 1 << 16, 1 << 32, math.MinInt} {
			for why, of := range map[string]func(m *wire.Msg) *int{
				"From": func(m *wire.Msg) *int { return &m.From },
				"To":   func(m *wire.Msg) *int { return &m.To },
				"Kind": func(m *wire.Msg) *int { return &m.Kind },
				"Vol":  func(m *wire.Msg) *int { return &m.Vol },
				"Life": func(m *wire.Msg) *int { return &m.Life },
				"Code": func(m *wire.Msg) *int { return &m.Code },
			} {
				b := a
				*of(&b) += step
				apart(t, why, a, b)
			}
		}
		for bit := range 64 {
			b := a
			b.Id ^= 1 << bit
			apart(t, "Id", a, b)
			b = a
			b.N.Key ^= 1 << bit
			apart(t, "the key", a, b)
			b = a
			b.N.Cookie ^= 1 << (bit % 32)
			apart(t, "the cookie", a, b)
		}
		b := a
		b.Has = !a.Has
		apart(t, "Has", a, b)
		b = a
		b.N.Gone = !a.N.Gone
		apart(t, "Gone", a, b)
	}
}

func TestSameLooksAtFieldsApart(t *testing.T) {
	// Two fields that changed their places, or by as much up and down, are two that differ.
	a := wire.Msg{From: 1, To: 2, Kind: 3, Vol: 4, Life: 5, Id: 6, Code: 7, Has: true, N: api.Needle{Key: 8, Cookie: 9}}
	of := func(m *wire.Msg) []*int { return []*int{&m.From, &m.To, &m.Kind, &m.Vol, &m.Life, &m.Code} }
	for i := range 6 {
		for j := range i {
			b := a
			x, y := of(&b)[i], of(&b)[j]
			*x, *y = *y, *x
			apart(t, "two fields", a, b)
		}
	}
	b := a
	b.Id, b.N.Key = a.N.Key, a.Id
	apart(t, "Id and the key", a, b)
	b = a
	b.From++
	b.N.Key++
	apart(t, "From and the key", a, b)
}

func TestSameLooksAtTheData(t *testing.T) {
	a := answer7()
	for data, want := range map[string]bool{
		"maize": true, "": false, "Maize": false, "maizE": false, "maiz": false, "maize\x00": false, "maizes": false, "aimze": false,
	} {
		b := a
		b.N.Data = []byte(data)
		if wire.Same(a, b) != want || wire.Same(b, a) != want {
			t.Errorf("P14.1: Same of maize and %q isn't %v", data, want)
		}
	}
	b := a
	b.N.Data = []byte("maizecorn")[:5]
	if !wire.Same(a, b) {
		t.Errorf("P14.1: Same looks behind the data")
	}
	for _, size := range []int{1, 8, 4096, 4097, 1 << 16} {
		a.N.Data = sample.Bytes(size)
		for _, bit := range []int{0, 4 * size, 8*size - 1} {
			b.N.Data = sample.Turned(a.N.Data, bit)
			apart(t, "a bit of the data", a, b)
		}
	}
}

func TestSameOfNoData(t *testing.T) {
	for _, a := range starts() {
		a.N.Data = nil
		b := a
		b.N.Data = []byte{}
		if !wire.Same(a, b) || !wire.Same(b, a) || !wire.Same(b, b) {
			t.Errorf("P14.1: Same: nil and empty data aren't alike in %+v", a)
		}
	}
	// Both have no needle: what stands there all the same is looked at as of any.
	a, b := bare7(), bare7()
	if !wire.Same(a, b) {
		t.Errorf("P14.1: Same of two without a needle")
	}
	b.N.Data = []byte("maize")
	apart(t, "data of no needle", a, b)
}

func TestReply(t *testing.T) {
	list := needles()
	for _, x := range refusals {
		list = append(list, x.n)
	}
	answers := append([]int{0, 8, 255, 256}, far...)
	for i, m := range anything() {
		code, n := answers[i%len(answers)], list[i%len(list)]
		for _, has := range []bool{true, false} {
			got := wire.Reply(m, code, has, n)
			want := wire.Msg{From: m.To, To: m.From, Kind: 5, Vol: m.Vol, Life: m.Life, Id: m.Id, Code: code, Has: has, N: n}
			if !alike(got, want) || !wire.Same(got, want) {
				t.Errorf("P14.1: Reply to %+v, %d, %v: %+v", brief(m), code, has, brief(got))
			}
		}
	}
}

func TestReplyWithEachNeedleAndCode(t *testing.T) {
	m := wire.Msg{From: 1, To: 2, Kind: wire.Put, Vol: 3, Life: 4, Id: 5, Has: true, N: api.Needle{Key: 6, Data: []byte("corn")}}
	for _, n := range append(needles(), refusals[0].n, refusals[5].n) {
		for _, code := range append([]int{0, 1, 8, 17, 255, 256}, far...) {
			for _, has := range []bool{true, false} {
				got := wire.Reply(m, code, has, n)
				want := wire.Msg{From: 2, To: 1, Kind: 5, Vol: 3, Life: 4, Id: 5, Code: code, Has: has, N: n}
				if !alike(got, want) {
					t.Errorf("P14.1: Reply with %d, %v: %+v; want %+v", code, has, brief(got), brief(want))
				}
			}
		}
	}
	// An answer to an answer has neither its code nor its needle.
	if got := wire.Reply(answer7(), 0, false, api.Needle{}); !alike(got, wire.Msg{From: 9, To: 2, Kind: 5, Vol: 3, Life: 1, Id: 40}) {
		t.Errorf("P14.1: Reply to an answer: %+v", got)
	}
}

func TestReplyMayBe(t *testing.T) {
	// What answers a message that may be, with a code and a needle that may be, may be itself.
	for _, m := range msgs() {
		if e := wire.Check(wire.Reply(m, 8, true, m.N)); e != nil {
			t.Errorf("P14.1: Check of an answer to %+v: %v", brief(m), e)
		}
		if e := wire.Check(wire.Reply(m, 0, false, api.Needle{})); e != nil {
			t.Errorf("P14.1: Check of an answer without a needle to %+v: %v", brief(m), e)
		}
	}
}

func TestReplyLeavesWhatIsHandedIn(t *testing.T) {
	for _, size := range []int{1, 8, 4096, 5000} {
		for _, has := range []bool{true, false} {
			room := append(sample.Bytes(size), 1, 2, 3, 4, 5, 6, 7, 8)
			before := bytes.Clone(room)
			m := answer7()
			got := wire.Reply(m, 0, has, api.Needle{Key: 1, Data: room[:size]})
			sample.Spoil(got.N.Data)
			if !bytes.Equal(room, before) || !alike(m, answer7()) {
				t.Errorf("P14.1: Reply with data of %d: what is handed in, or the room behind, is changed", size)
			}
			got = wire.Reply(m, 0, has, api.Needle{Key: 1, Data: room[:size]})
			again := wire.Reply(m, 0, has, api.Needle{Key: 1, Data: room[:size]})
			sample.Spoil(room)
			if !bytes.Equal(got.N.Data, before[:size]) {
				t.Errorf("P14.1: Reply with data of %d: it is the argument's memory", size)
			}
			sample.Spoil(got.N.Data)
			if !bytes.Equal(again.N.Data, before[:size]) {
				t.Errorf("P14.1: Reply with data of %d: answers share memory", size)
			}
		}
	}
}
