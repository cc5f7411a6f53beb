package once_test

import (
	"fmt"
	"slices"
	"testing"

	"corncrib/api"
	"corncrib/once"
	"corncrib/sample"
	"corncrib/wire"
)

// model is a table in other words: a list that is looked through from its end. What
// it is asked it tells by its code.
type model struct {
	most int
	l    []wire.Msg
}

func (x *model) find(from int, id uint64) (wire.Msg, api.Code) {
	for i := len(x.l); i > 0; i-- {
		if m := x.l[i-1]; m.To == from && m.Id == id {
			return m, 0
		}
	}
	return wire.Msg{}, api.ErrNone
}

func (x *model) keep(m wire.Msg) api.Code {
	if m.Kind != 5 {
		return api.ErrArg
	}
	if e := wire.Check(m); e != nil {
		return e.(api.Code)
	}
	if _, c := x.find(m.To, m.Id); c == 0 {
		return api.ErrThere
	}
	if len(x.l) >= x.most {
		return api.ErrFull
	}
	x.l = append(x.l, m)
	return 0
}

const callSize = 5 // bytes of a call

// place tells one of few places, among them two that can't be.
func place(b byte) int {
	return [...]int{0, 1, 2, 3, 254, 255, 256, -1}[b%8]
}

// number tells one of few Ids.
func number(b byte) uint64 {
	return ids[int(b)%len(ids)]
}

// message tells a message, as bytes say it, most often an answer; of some that
// wire.Check refuses.
func message(call []byte) wire.Msg {
	m := wire.Msg{From: place(call[3] / 8), To: place(call[1]), Kind: wire.Answer, Vol: 1, Id: number(call[2]), Code: int(call[3]) + int(call[4]%9/8)}
	if call[4]%16 == 3 {
		m.Kind = int(call[3] % 7)
	}
	if call[4]%3 == 0 {
		return m
	}
	m.Has = true
	m.N = api.Needle{Key: uint64(call[3]), Gone: call[4]%5 == 1, Data: sample.Bytes(int(call[3] % 4))}
	if call[4]%32 == 31 {
		m.N.Data = sample.Bytes(4097)
	}
	return m
}

// do does a call, as bytes say it, and tells what it told wrongly.
func do(t *once.Table, x *model, call []byte) string {
	var e error
	var want api.Code
	var m, wantMsg wire.Msg
	switch call[0] % 32 {
	case 0:
		t.Clear()
		x.l = nil
	case 1, 2, 3, 4, 5, 6, 7, 8:
		m, e = t.Find(place(call[1]), number(call[2]))
		wantMsg, want = x.find(place(call[1]), number(call[2]))
	default:
		e, want = t.Keep(message(call)), x.keep(message(call))
	}
	if !sample.Is(e, want) || !wire.Same(m, wantMsg) {
		return fmt.Sprintf("%+v, %v; want %+v, code %d", brief(m), e, brief(wantMsg), want)
	}
	return apart(t, x)
}

// apart tells where the table isn't as its model is.
func apart(t *once.Table, x *model) string {
	if t.Len() != len(x.l) || t.Room() != (len(x.l) < x.most) {
		return fmt.Sprint("Len ", t.Len(), ", Room ", t.Room(), "; want ", len(x.l), " of ", x.most)
	}
	for p := range byte(8) {
		for i := range ids {
			want, code := x.find(place(p), ids[i])
			if m, e := t.Find(place(p), ids[i]); !sample.Is(e, code) || !wire.Same(m, want) {
				return fmt.Sprintf("then Find of %d, %d: %+v, %v; want %+v, code %d", place(p), ids[i], m, e, want, code)
			}
		}
	}
	return ""
}

// run does one call behind the other; the first byte tells for how many the table is.
func run(t *testing.T, script []byte) {
	t.Helper()
	if len(script) == 0 {
		return
	}
	most := 1 + int(script[0])%90
	got, x := table(t, most), &model{most: most}
	for i, call := range slices.Collect(slices.Chunk(script[1:], callSize)) {
		if len(call) < callSize {
			return
		}
		if wrong := do(got, x, call); wrong != "" {
			t.Fatalf("P16.1 to P16.3: call %d, of the bytes %v, for %d: %s", i, call, most, wrong)
		}
	}
}

func TestScripts(t *testing.T) {
	for n := range 60 {
		run(t, append([]byte{byte(7 * n)}, sample.Bytes(callSize*(100+10*n))...))
	}
}

func FuzzOnce(f *testing.F) {
	f.Add([]byte{0, 9, 0, 0, 1, 1, 1, 0, 0, 0, 0})
	f.Add([]byte{1, 9, 1, 1, 5, 1, 9, 1, 1, 6, 2, 9, 1, 2, 5, 1, 9, 2, 2, 5, 1, 0, 0, 0, 0, 0, 9, 1, 1, 6, 2})
	f.Add(sample.Bytes(1 + callSize*40))
	f.Fuzz(run)
}
