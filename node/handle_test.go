package node_test

import (
	"errors"
	"fmt"
	"math"
	"testing"

	"corncrib/api"
	"corncrib/disk"
	"corncrib/node"
	"corncrib/sample"
	"corncrib/wire"
)

// kinds are those of requests.
var kinds = []int{wire.Put, wire.Lay, wire.Get, wire.Del}

// wrongRequests tells what no request to the node may be, by why.
func wrongRequests(n *node.Node) map[string]wire.Msg {
	l := map[string]wire.Msg{}
	with := func(why string, change func(m *wire.Msg)) {
		for _, kind := range kinds {
			m := ask(n, kind, 77, blob(7, 5))
			change(&m)
			l[fmt.Sprint(why, ", of the kind ", kind)] = m
		}
	}
	for _, kind := range []int{math.MinInt, -1, 0, 5, 6, 255, 256, 257, 1<<32 + 1, math.MaxInt} {
		with(fmt.Sprint("the kind ", kind), func(m *wire.Msg) { m.Kind = kind })
	}
	for place, can := range places {
		if !can {
			with(fmt.Sprint("from ", place), func(m *wire.Msg) { m.From = place })
		}
		if place != 2 {
			with(fmt.Sprint("to ", place), func(m *wire.Msg) { m.To = place })
		}
	}
	for number, can := range numbers {
		if !can {
			with(fmt.Sprint("volume ", number), func(m *wire.Msg) { m.Vol = number })
		}
	}
	for _, life := range []int{math.MinInt, -1, 1 << 31, 1 << 32, math.MaxInt} {
		with(fmt.Sprint("life ", life), func(m *wire.Msg) { m.Life = life })
	}
	for _, code := range []int{math.MinInt, -1, 1, 8, 255, 256, math.MaxInt} {
		with(fmt.Sprint("code ", code), func(m *wire.Msg) { m.Code = code })
	}
	with("too much data", func(m *wire.Msg) { m.N.Data = sample.Bytes(4097) })
	with("a needle that is gone with data", func(m *wire.Msg) { m.N.Gone = true })
	with("a needle that it has not", func(m *wire.Msg) { m.Has = false })
	with("a key that it has not", func(m *wire.Msg) { m.Has, m.N = false, api.Needle{Key: 1} })
	with("a needle that is gone that it has not", func(m *wire.Msg) { m.Has, m.N = false, api.Needle{Gone: true} })
	with("an answer with a code", func(m *wire.Msg) { m.Kind, m.Code = wire.Answer, 8 })
	with("an answer without a needle", func(m *wire.Msg) { m.Kind, m.Has, m.N = wire.Answer, false, api.Needle{} })
	return l
}

func TestWrongRequests(t *testing.T) {
	n := begun(t, 3)
	answers(t, "P17.1: put", n, ask(n, wire.Put, 1, blob(8, 5)), 0)
	for life := range 2 {
		was := seen(n)
		for why, m := range wrongRequests(n) {
			refuses(t, "P17.1: "+why, n, m, api.ErrArg)
		}
		stays(t, "P17.1: requests that are none", n, was)
		// Nothing is kept of them.
		answers(t, "P17.1: the same Id", n, ask(n, wire.Put, 77, blob(uint64(life), 5)), 0)
		for why, m := range wrongRequests(n) {
			refuses(t, "P17.1: behind one with its Id "+why, n, m, api.ErrArg)
		}
		restart(t, n, disk.Picks{})
	}
}

func TestHandleOfANodeThatIsNotUp(t *testing.T) {
	for why, n := range offNodes(t) {
		was := seen(n)
		for _, kind := range kinds {
			for _, life := range []int{0, 1, 2} {
				m := ask(n, kind, 1, blob(7, 5))
				m.Life = life
				refuses(t, "P17.1: a node "+why, n, m, api.ErrDown)
				m.Has, m.N = false, api.Needle{}
				refuses(t, "P17.1: a node "+why, n, m, api.ErrDown)
				m.Vol = 4
				refuses(t, "P17.1: a node "+why, n, m, api.ErrDown)
			}
		}
		for what, m := range wrongRequests(n) {
			refuses(t, "P17.1: a node "+why+", "+what, n, m, api.ErrDown)
		}
		stays(t, "P17.1: Handle of a node "+why, n, was)
	}
}

// A request of another life: ErrStale's code and the node's life, and nothing is
// done or kept, also where one with its From and Id was answered.
func TestOtherLives(t *testing.T) {
	n := begun(t, 3)
	for life := range 4 {
		old := ask(n, wire.Put, 1, blob(uint64(life), 5))
		answers(t, "P17.1: of this life", n, old, 0)
		was := seen(n)
		for _, other := range []int{0, 1, 2, 3, 4, 5, 255, 256, 1 << 16, math.MaxInt32 - 1, math.MaxInt32} {
			if other == life {
				continue
			}
			for _, kind := range kinds {
				for id := range uint64(4) {
					m := ask(n, kind, id, blob(uint64(life), 5))
					m.Life = other
					why := fmt.Sprintf("P17.1: of the life %d in the life %d", other, life)
					want := reply(n, m, api.ErrStale)
					want.Life = life
					tells(t, why, n, m, want)
					m.Vol, want.Vol = 4, 4
					tells(t, why+", of no volume", n, m, want)
					m.Has, m.N = false, api.Needle{}
					tells(t, why+", without a needle", n, m, want)
				}
			}
		}
		stays(t, "P17.1: requests of other lives", n, was)
		answers(t, "P17.1: with an Id of a stale request", n, ask(n, wire.Get, 2, blob(uint64(life), 0)), 0, blob(uint64(life), 5))
		answers(t, "P17.1: with an Id of a stale request", n, ask(n, wire.Put, 3, blob(uint64(90+life), 1)), 0)
		tells(t, "P17.1: of this life, again", n, old, reply(n, old, 0))
		restart(t, n, disk.Picks{})
	}
}

// spoilt tells a node with volume 3: 10 is there, 20 is gone, 30 is there and
// spoilt, 40 is gone and spoilt.
func spoilt(t *testing.T) *node.Node {
	t.Helper()
	n := begun(t, 3)
	v := n.Vol(3)
	must(t, v.Put(blob(10, 5)), v.Put(blob(20, 9)), v.Del(20, 120), v.Put(blob(30, 7)), v.Lay(dead(40)), spoil(n))
	return n
}

// spoil spoils 30 and 40 of spoilt's node, or makes them good again.
func spoil(n *node.Node) error {
	at30 := 16 + 40 + 48 + 32
	return errors.Join(n.Disk().Spoil("v3.1", at30+8, 4), n.Disk().Spoil("v3.1", at30+40+8, 4))
}

// other tells a needle with other data, or another cookie.
func other(x api.Needle, size int, cookie uint32) api.Needle {
	x.Cookie += cookie
	x.Data = sample.Bytes(size)
	return x
}

// row is a request, and the answer to it.
type row struct {
	kind int
	x    api.Needle
	code api.Code
	told []api.Needle
}

func one(x api.Needle) []api.Needle { return []api.Needle{x} }

// rows are requests of spoilt's node, each of one that did nothing else.
var rows = []row{
	{wire.Put, blob(1, 4), 0, nil},
	{wire.Put, blob(0, 0), 0, nil},
	{wire.Put, blob(math.MaxUint64, 4096), 0, nil},
	{wire.Put, dead(1), api.ErrArg, nil},
	{wire.Put, dead(10), api.ErrArg, nil},
	{wire.Put, dead(20), api.ErrArg, nil},
	{wire.Put, blob(10, 5), api.ErrThere, one(blob(10, 5))},
	{wire.Put, blob(10, 6), api.ErrThere, one(blob(10, 5))},
	{wire.Put, other(blob(10, 5), 5, 1), api.ErrThere, one(blob(10, 5))},
	{wire.Put, blob(20, 9), api.ErrGone, one(dead(20))},
	{wire.Put, other(blob(20, 9), 3, 7), api.ErrGone, one(dead(20))},
	{wire.Put, blob(30, 7), api.ErrThere, nil},
	{wire.Put, blob(40, 7), api.ErrGone, one(dead(40))},
	{wire.Lay, blob(1, 4), 0, nil},
	{wire.Lay, dead(1), 0, nil},
	{wire.Lay, blob(10, 5), 0, nil},
	{wire.Lay, dead(10), 0, nil},
	{wire.Lay, blob(10, 6), api.ErrThere, nil},
	{wire.Lay, other(blob(10, 5), 5, 1), api.ErrCookie, nil},
	{wire.Lay, other(dead(10), 0, 1), api.ErrCookie, nil},
	{wire.Lay, blob(20, 9), 0, nil},
	{wire.Lay, dead(20), 0, nil},
	{wire.Lay, other(blob(20, 9), 9, 1), api.ErrCookie, nil},
	{wire.Lay, other(dead(20), 0, 1), api.ErrCookie, nil},
	{wire.Lay, blob(30, 7), api.ErrSum, nil},
	{wire.Lay, other(blob(30, 7), 7, 1), api.ErrCookie, nil},
	{wire.Lay, dead(30), 0, nil},
	{wire.Lay, blob(40, 7), 0, nil},
	{wire.Del, blob(10, 0), 0, nil},
	{wire.Del, blob(10, 3), 0, nil},
	{wire.Del, dead(10), 0, nil},
	{wire.Del, blob(1, 0), api.ErrNone, nil},
	{wire.Del, dead(1), api.ErrNone, nil},
	{wire.Del, blob(20, 0), api.ErrGone, one(dead(20))},
	{wire.Del, other(blob(20, 0), 0, 1), api.ErrGone, one(dead(20))},
	{wire.Del, other(blob(10, 0), 0, 1), api.ErrCookie, one(blob(10, 5))},
	{wire.Del, other(blob(30, 0), 0, 1), api.ErrCookie, nil},
	{wire.Del, blob(30, 0), 0, nil},
	{wire.Del, blob(40, 0), api.ErrGone, one(dead(40))},
	{wire.Get, blob(10, 0), 0, one(blob(10, 5))},
	{wire.Get, blob(10, 9), 0, one(blob(10, 5))},
	{wire.Get, dead(10), 0, one(blob(10, 5))},
	{wire.Get, blob(1, 0), api.ErrNone, nil},
	{wire.Get, blob(9, 0), api.ErrNone, nil},
	{wire.Get, blob(11, 0), api.ErrNone, nil},
	{wire.Get, other(blob(10, 0), 0, 1), api.ErrCookie, one(blob(10, 5))},
	{wire.Get, blob(20, 0), api.ErrGone, one(dead(20))},
	{wire.Get, other(blob(20, 0), 0, 9), api.ErrGone, one(dead(20))},
	{wire.Get, blob(30, 0), api.ErrSum, nil},
	{wire.Get, other(blob(30, 0), 0, 1), api.ErrCookie, nil},
	{wire.Get, blob(40, 0), api.ErrGone, one(dead(40))},
}

func (r row) String() string {
	return fmt.Sprintf("kind %d of %d, cookie %d, %d bytes, gone %v", r.kind, r.x.Key, r.x.Cookie, len(r.x.Data), r.x.Gone)
}

// TestRequests asks what each request is answered, that the volume has what was
// asked for then, that the request does nothing when it comes again, and that what
// was asked for is there behind a crash.
func TestRequests(t *testing.T) {
	for _, r := range rows {
		n := spoilt(t)
		was := seen(n)
		why := fmt.Sprint("P17.1: ", r)
		m := ask(n, r.kind, 5, r.x)
		answers(t, why, n, m, r.code, r.told...)
		if r.code != 0 || r.kind == wire.Get {
			stays(t, why, n, was)
		}
		if r.code == 0 {
			done(t, why, n, r)
		}
		was = seen(n)
		for range 2 {
			answers(t, "P17.4: again: "+r.String(), n, m, r.code, r.told...)
		}
		stays(t, "P17.4: again: "+r.String(), n, was)
		if r.code == 0 {
			must(t, spoil(n)) // it would be the end of the file
			restart(t, n, disk.Picks{})
			done(t, "P17.4: behind a crash: "+r.String(), n, r)
		}
	}
}

// done asks that a node has what a request that was answered without an error asks
// for.
func done(t *testing.T, why string, n *node.Node, r row) {
	t.Helper()
	got, e := n.Vol(3).Get(r.x.Key, r.x.Cookie)
	if r.kind == wire.Del || r.kind == wire.Lay && (r.x.Gone || r.x.Key == 20 || r.x.Key == 40) {
		is(t, why, e, api.ErrGone)
	} else if e != nil || r.kind != wire.Get && string(got.Data) != string(r.x.Data) {
		t.Errorf("%s: Get: %v, %v", why, got, e)
	}
}

// What a volume tells of a file that isn't as it was, or of one that is full, is
// told by its code, wrapped or not.
func TestCodesOfVolumes(t *testing.T) {
	fresh, there, foreign := blob(1, 4), blob(10, 5), other(blob(10, 5), 5, 1)
	every := func(x api.Needle, code api.Code) []row {
		return []row{{wire.Put, x, code, nil}, {wire.Lay, x, code, nil}}
	}
	for why, x := range map[string]struct {
		do   func(n *node.Node) error
		rows []row
	}{
		"the volume is sealed": {func(n *node.Node) error { return n.Vol(3).Set(0, true) }, []row{
			{wire.Put, fresh, api.ErrSealed, nil}, {wire.Put, there, api.ErrSealed, nil}, {wire.Put, blob(20, 9), api.ErrSealed, nil},
			{wire.Put, dead(1), api.ErrArg, nil}, {wire.Lay, fresh, 0, nil}, {wire.Lay, dead(10), 0, nil}, {wire.Del, there, api.ErrSealed, nil},
			{wire.Del, foreign, api.ErrCookie, one(there)}, {wire.Del, blob(20, 0), api.ErrGone, one(dead(20))}, {wire.Get, there, 0, one(there)},
		}},
		"the data file is gone": {func(n *node.Node) error { return n.Disk().Remove("v3.1") }, append(every(fresh, api.ErrNone),
			row{wire.Lay, there, api.ErrNone, nil}, row{wire.Get, there, api.ErrNone, nil}, row{wire.Del, there, api.ErrNone, nil},
			row{wire.Put, there, api.ErrThere, nil}, row{wire.Get, foreign, api.ErrCookie, nil}, row{wire.Del, foreign, api.ErrCookie, nil},
			row{wire.Put, blob(20, 1), api.ErrGone, one(dead(20))}, row{wire.Lay, foreign, api.ErrCookie, nil})},
		"the data file ends ahead": {func(n *node.Node) error { return n.Disk().Cut("v3.1", 55) }, []row{
			{wire.Get, there, api.ErrShort, nil}, {wire.Lay, there, api.ErrShort, nil}, {wire.Put, there, api.ErrThere, nil},
			{wire.Get, foreign, api.ErrCookie, nil}, {wire.Del, foreign, api.ErrCookie, nil}, {wire.Del, there, 0, nil},
		}},
		"no needle is there": {func(n *node.Node) error { return n.Disk().Spoil("v3.1", 16, 1) }, []row{
			{wire.Get, there, api.ErrForm, nil}, {wire.Lay, there, api.ErrForm, nil}, {wire.Put, there, api.ErrThere, nil},
			{wire.Get, foreign, api.ErrCookie, nil}, {wire.Del, foreign, api.ErrCookie, nil},
		}},
		"another needle is there": {func(n *node.Node) error { return becomes(n, 16, there, foreign) }, []row{
			{wire.Get, there, api.ErrForm, nil}, {wire.Lay, there, api.ErrForm, nil}, {wire.Put, foreign, api.ErrThere, nil},
			{wire.Get, foreign, api.ErrCookie, nil}, {wire.Del, foreign, api.ErrCookie, nil},
		}},
		"the disk is full": {func(n *node.Node) error { return fill(n, plenty) }, append(every(fresh, api.ErrFull),
			row{wire.Del, there, api.ErrFull, nil}, row{wire.Lay, dead(10), api.ErrFull, nil}, row{wire.Lay, there, 0, nil},
			row{wire.Put, there, api.ErrThere, one(there)}, row{wire.Get, there, 0, one(there)})},
	} {
		for _, r := range x.rows {
			n := spoilt(t)
			must(t, x.do(n))
			why := fmt.Sprint("P17.1: ", why, ", ", r)
			was := seen(n)
			for range 2 {
				answers(t, why, n, ask(n, r.kind, 5, r.x), r.code, r.told...)
			}
			if r.code != 0 {
				stays(t, why, n, was)
			}
		}
	}
}

// becomes makes a needle's bytes in volume 3's file those of another one.
func becomes(n *node.Node, off int, from, to api.Needle) error {
	a, b := text(from), text(to)
	for i := range a {
		if e := n.Disk().Spoil("v3.1", off+i, a[i]^b[i]); e != nil {
			return e
		}
	}
	return nil
}

// fill leaves no room on a disk.
func fill(n *node.Node, capacity int) error {
	if e := n.Disk().Create("x"); e != nil {
		return e
	}
	return n.Disk().Append("x", make([]byte, capacity-n.Disk().Used()))
}

// A volume with as many bytes, or keys, as it may have.
func TestFullVolumes(t *testing.T) {
	many := sure(node.New(2, 1<<20))
	must(t, many.Make(3, 1<<20))
	for i := range 4096 {
		must(t, many.Vol(3).Lay(blob(uint64(i), 0)))
	}
	small := begun(t)
	must(t, small.Make(3, 16+32))
	must(t, small.Vol(3).Put(blob(7, 0)))
	for why, n := range map[string]*node.Node{"of 4096 keys": many, "of so many bytes": small} {
		for i, r := range []row{
			{wire.Put, blob(5000, 0), api.ErrFull, nil}, {wire.Lay, blob(5000, 0), api.ErrFull, nil}, {wire.Lay, dead(5000), api.ErrFull, nil},
			{wire.Lay, dead(7), api.ErrFull, nil}, {wire.Del, blob(7, 0), api.ErrFull, nil}, {wire.Put, blob(7, 0), api.ErrThere, one(blob(7, 0))},
			{wire.Lay, blob(7, 0), 0, nil}, {wire.Get, blob(7, 0), 0, one(blob(7, 0))}, {wire.Get, blob(5000, 0), api.ErrNone, nil},
		} {
			answers(t, fmt.Sprintf("P17.1: a volume %s, %v", why, r), n, ask(n, r.kind, uint64(i), r.x), r.code, r.told...)
		}
	}
	// A file that is longer than any may be, by hand.
	long := sure(node.New(2, 1<<25))
	must(t, long.Make(3, 1<<24))
	must(t, long.Disk().Append("v3.1", make([]byte, 1<<24-16)))
	for i, r := range []row{{wire.Put, blob(7, 0), api.ErrLong, nil}, {wire.Lay, blob(7, 0), api.ErrLong, nil}, {wire.Get, blob(7, 0), api.ErrNone, nil}} {
		answers(t, fmt.Sprint("P17.1: a file that is full, ", r), long, ask(long, r.kind, uint64(i), r.x), r.code, r.told...)
	}
}

// Without a needle: ErrArg's code, ahead of a volume that the node hasn't.
func TestWithoutANeedle(t *testing.T) {
	for _, kind := range kinds {
		for _, volume := range []int{3, 4, 65535} {
			n := begun(t, 3)
			must(t, n.Vol(3).Put(api.Needle{}))
			was := seen(n)
			m := wire.Msg{From: 9, To: 2, Kind: kind, Vol: volume, Id: 5}
			why := fmt.Sprintf("P17.1: kind %d on volume %d without a needle", kind, volume)
			for range 2 {
				answers(t, why, n, m, api.ErrArg)
			}
			// It is kept: the same once more, with a needle, isn't done.
			m.Has, m.Vol, m.N = true, 3, api.Needle{Key: 8}
			a := reply(n, m, api.ErrArg)
			a.Vol = volume
			tells(t, why+", and one with the same Id", n, m, a)
			stays(t, why, n, was)
		}
	}
}

// Without a volume: ErrNone's code.
func TestWithoutAVolume(t *testing.T) {
	for _, kind := range kinds {
		for _, volume := range []int{1, 2, 4, 65535} {
			n := begun(t, 3)
			must(t, n.Vol(3).Put(blob(7, 5)))
			was := seen(n)
			m := ask(n, kind, 5, blob(7, 5))
			m.Vol = volume
			why := fmt.Sprintf("P17.1: kind %d on volume %d, which isn't there", kind, volume)
			for range 2 {
				answers(t, why, n, m, api.ErrNone)
			}
			stays(t, why, n, was)
			// It is kept: though there is one now, it isn't asked.
			must(t, n.Make(volume, plenty))
			answers(t, why+", and is made", n, m, api.ErrNone)
			has(t, why+", and is made", n, volume)
			m.Id++
			answers(t, why+", and is made, and another request", n, m, []api.Code{0, 0, 0, api.ErrNone, api.ErrNone}[m.Kind])
		}
	}
}

// Each volume has its own needles.
func TestVolumes(t *testing.T) {
	n := begun(t, 3, 4, 65535)
	for life := range 2 {
		for i, volume := range []int{3, 4, 65535} {
			m := ask(n, wire.Put, uint64(i), blob(7, i))
			m.Vol = volume
			if life == 0 {
				answers(t, "P17.1: one of three volumes", n, m, 0)
			} else {
				answers(t, "P17.1: one of three volumes", n, m, api.ErrThere, blob(7, i))
			}
		}
		for i, volume := range []int{3, 4, 65535} {
			has(t, "P17.1: one of three volumes", n, volume, blob(7, i))
			m := ask(n, wire.Get, uint64(10+i), blob(7, 0))
			m.Vol = volume
			answers(t, "P17.1: one of three volumes", n, m, 0, blob(7, i))
		}
		restart(t, n, disk.Picks{})
	}
}

// The needle that a request handed in, and that an answer tells, is nobody else's.
func TestDataIsNobodyElses(t *testing.T) {
	n := begun(t, 3)
	x := blob(7, 20)
	m := ask(n, wire.Put, 1, x)
	answers(t, "P17.1: put", n, m, 0)
	if string(m.N.Data) != string(sample.Bytes(20)) {
		t.Errorf("P17.1: Handle changes the data of a put")
	}
	sample.Spoil(x.Data)
	laid := ask(n, wire.Lay, 2, blob(8, 20))
	answers(t, "P17.1: lay", n, laid, 0)
	sample.Spoil(laid.N.Data)
	has(t, "P17.1: behind what was handed in is changed", n, 3, blob(7, 20), blob(8, 20))
	for i, m := range []wire.Msg{
		ask(n, wire.Get, 3, blob(7, 0)), ask(n, wire.Put, 4, blob(7, 1)), ask(n, wire.Del, 5, other(blob(7, 0), 0, 1)), ask(n, wire.Get, 6, other(blob(7, 0), 0, 1)),
	} {
		want := reply(n, m, []api.Code{0, api.ErrThere, api.ErrCookie, api.ErrCookie}[i], blob(7, 20))
		for range 3 {
			a, e := n.Handle(m)
			if e != nil || !wire.Same(a, want) {
				t.Errorf("P17.1: with what was told ahead changed: %+v, %v", short(a), e)
			}
			sample.Spoil(a.N.Data)
		}
	}
	has(t, "P17.1: behind what was told is changed", n, 3, blob(7, 20), blob(8, 20))
	restart(t, n, disk.Picks{})
	has(t, "P17.1: behind what was told is changed, and a start", n, 3, blob(7, 20), blob(8, 20))
}

func text(x api.Needle) []byte {
	// The bytes of a message end with its needle and a sum.
	b := sure(wire.Bytes(wire.Msg{Kind: wire.Put, Vol: 1, Has: true, N: x}))
	return b[24 : len(b)-4]
}
