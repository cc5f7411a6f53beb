package node_test

import (
	"fmt"
	"math"
	"testing"

	"corncrib/api"
	"corncrib/disk"
	"corncrib/node"
	"corncrib/wire"
)

// firsts are requests of spoilt's node, and their codes and needles: what they are
// answered is kept.
var firsts = []row{
	{wire.Put, blob(1, 4), 0, nil},
	{wire.Put, blob(10, 6), api.ErrThere, one(blob(10, 5))},
	{wire.Put, dead(1), api.ErrArg, nil},
	{wire.Lay, blob(1, 4), 0, nil},
	{wire.Lay, other(blob(10, 5), 5, 1), api.ErrCookie, nil},
	{wire.Del, blob(10, 0), 0, nil},
	{wire.Del, blob(20, 0), api.ErrGone, one(dead(20))},
	{wire.Get, blob(10, 0), 0, one(blob(10, 5))},
	{wire.Get, blob(1, 0), api.ErrNone, nil},
	{wire.Get, blob(30, 0), api.ErrSum, nil},
}

// A request with the same From and Id, whatever else it says, is answered as the
// first one, and nothing is done.
func TestTheSameAgain(t *testing.T) {
	for _, first := range firsts {
		n := spoilt(t)
		must(t, n.Make(4, plenty))
		m := ask(n, first.kind, 5, first.x)
		want := reply(n, m, first.code, first.told...)
		tells(t, fmt.Sprint("P17.1: ", first), n, m, want)
		was := seen(n)
		for _, kind := range kinds {
			for _, volume := range []int{3, 4, 5} {
				for _, x := range []api.Needle{first.x, blob(1, 4), blob(2, 9), dead(10), blob(10, 0), blob(20, 0), dead(77)} {
					m := ask(n, kind, 5, x)
					m.Vol = volume
					tells(t, fmt.Sprintf("P17.4: kind %d of %d on %d behind %v", kind, x.Key, volume, first), n, m, want)
				}
				m := wire.Msg{From: 9, To: 2, Kind: kind, Vol: volume, Id: 5}
				tells(t, fmt.Sprintf("P17.4: kind %d without a needle on %d behind %v", kind, volume, first), n, m, want)
			}
		}
		stays(t, fmt.Sprint("P17.4: the same From and Id behind ", first), n, was)
	}
}

// What was answered is told so also where it would be answered otherwise now.
func TestTheSameLater(t *testing.T) {
	n := begun(t, 3)
	get, put, del := ask(n, wire.Get, 1, blob(7, 0)), ask(n, wire.Put, 2, blob(7, 5)), ask(n, wire.Del, 3, blob(7, 0))
	after := ask(n, wire.Get, 4, blob(7, 0))
	for i := range 3 {
		why := fmt.Sprint("P17.4: later ", i)
		answers(t, why, n, get, api.ErrNone)
		answers(t, why, n, put, 0)
		answers(t, why, n, after, 0, blob(7, 5))
		answers(t, why, n, del, 0)
	}
	answers(t, "P17.4: another request", n, ask(n, wire.Get, 5, blob(7, 0)), api.ErrGone, dead(7))
	if i := n.Vol(3).Info(); i.Size != 16+40+32 || i.Gone != 1 {
		t.Errorf("P17.4: requests that come more than once: %+v", i)
	}
}

// The same Id of another place, and another Id of the same place, are other requests.
func TestOtherRequests(t *testing.T) {
	n := begun(t, 3)
	key := uint64(0)
	ids := []uint64{0, 1, 2, 9, 255, 256, 1<<32 + 1, 1 << 63, math.MaxUint64}
	froms := []int{0, 1, 2, 9, 254, 255}
	for range 2 {
		key = 0
		for _, id := range ids {
			for _, from := range froms {
				key++
				m := ask(n, wire.Put, id, blob(key, 3))
				m.From = from
				answers(t, fmt.Sprintf("P17.1: the Id %d of the place %d", id, from), n, m, 0)
				if i := n.Vol(3).Info(); i.Live < int(key) {
					t.Errorf("P17.1: the Id %d of the place %d: %+v", id, from, i)
				}
			}
		}
	}
	if i := n.Vol(3).Info(); i.Live != len(ids)*len(froms) || i.Size != 16+i.Live*40 {
		t.Errorf("P17.4: %d requests, each twice: %+v", len(ids)*len(froms), i)
	}
}

// In the next life what was answered is asked for anew.
func TestTheSameInTheNextLife(t *testing.T) {
	n := begun(t, 3)
	for life := range 4 {
		for i, r := range []row{
			{wire.Put, blob(7, 5), api.ErrThere, one(blob(7, 5))}, {wire.Put, blob(8, 5), api.ErrGone, one(dead(8))},
			{wire.Lay, blob(9, 5), 0, nil}, {wire.Del, blob(8, 0), api.ErrGone, one(dead(8))}, {wire.Get, blob(7, 0), 0, one(blob(7, 5))},
		} {
			if life == 0 && r.kind != wire.Get {
				r.code, r.told = 0, nil
			}
			answers(t, fmt.Sprintf("P17.1: %v in the life %d", r, life), n, ask(n, r.kind, uint64(i), r.x), r.code, r.told...)
		}
		has(t, fmt.Sprint("P17.4: in the life ", life), n, 3, blob(7, 5), dead(8), blob(9, 5))
		restart(t, n, disk.Picks{})
	}
}

// many tells requests of all kinds, so that each answer counts, whatever it tells.
func many(n *node.Node, i int) wire.Msg {
	m := ask(n, []int{wire.Put, wire.Lay, wire.Get, wire.Del, wire.Get}[i%5], uint64(i/2), blob(uint64(i%100+1), 5))
	m.From = i % 2
	m.Vol = 3 + i%7/6
	if i%11 == 10 {
		m.Has, m.N = false, api.Needle{}
	}
	return m
}

// noRoom asks that a node has no room for another answer: ErrBusy's code, ahead of
// all that a volume tells, and behind all that is told without one.
func noRoom(t *testing.T, n *node.Node) {
	t.Helper()
	for i, kind := range kinds {
		why := fmt.Sprintf("P17.1: behind 4096 answers, kind %d", kind)
		m := ask(n, kind, uint64(10000+i), blob(uint64(200+n.Life()), 5))
		answers(t, why, n, m, api.ErrBusy)
		m.Vol = 5
		answers(t, why+", without a volume", n, m, api.ErrBusy)
		m.Has, m.N = false, api.Needle{}
		answers(t, why+", without a needle", n, m, api.ErrBusy)
		stale := reply(n, m, api.ErrStale)
		m.Life++
		tells(t, why+", of another life", n, m, stale)
		m.To = 3
		refuses(t, why+", to another place", n, m, api.ErrArg)
	}
}

// 4096 answers are kept in a life, and there is no room for one more: ErrBusy's code
// then, and nothing is done, or kept; what was answered is told still.
func TestManyAnswers(t *testing.T) {
	n := begun(t, 3)
	for life := range 3 {
		var told []wire.Msg
		for i := range 4096 {
			told = append(told, sure(n.Handle(many(n, i))))
			if told[i].Code == int(api.ErrBusy) {
				t.Fatalf("P17.1: answer %d of the life %d: ErrBusy", i, life)
			}
		}
		was := seen(n)
		for range 2 {
			noRoom(t, n)
			for i := range 4096 {
				tells(t, "P17.4: behind 4096 answers", n, many(n, i), told[i])
			}
		}
		stays(t, "P17.1: behind 4096 answers", n, was)
		restart(t, n, disk.Picks{})
		_, e := n.Vol(3).Get(uint64(200+life), 0)
		is(t, "P17.1: a put for which there was no room, behind a start", e, api.ErrNone)
	}
}

// Requests that aren't kept take no room.
func TestWhatTakesNoRoom(t *testing.T) {
	n := begun(t, 3)
	for i := range uint64(5000) {
		m := ask(n, wire.Put, i, blob(i, 0))
		m.Life = 1
		sure(n.Handle(m))
		m.To = 3
		refuses(t, "P17.1: a request to another place", n, m, api.ErrArg)
	}
	for range 5000 {
		answers(t, "P17.1: one that comes again", n, ask(n, wire.Put, 1, blob(7, 5)), 0)
	}
	for i := range uint64(4095) {
		answers(t, fmt.Sprint("P17.1: answer ", 2+i), n, ask(n, wire.Get, 2+i, blob(7, 0)), 0, blob(7, 5))
	}
	answers(t, "P17.1: answer 4097", n, ask(n, wire.Get, 9999, blob(7, 0)), api.ErrBusy)
}
