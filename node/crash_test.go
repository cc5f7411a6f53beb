package node_test

import (
	"errors"
	"fmt"
	"maps"
	"strings"
	"testing"

	"corncrib/api"
	"corncrib/disk"
	"corncrib/needle"
	"corncrib/node"
	"corncrib/wire"
)

// A put, a lay, a deletion whose disk ends at each of its deeds: there is no answer,
// and the node isn't up, also where the last deed was done; behind the crash all or
// nothing of it is there, as the picks say.
func TestRequestsOfADiskThatEnds(t *testing.T) {
	for _, r := range []row{
		{wire.Put, blob(1, 20), 0, nil}, {wire.Lay, blob(1, 20), 0, nil}, {wire.Lay, dead(1), 0, nil}, {wire.Lay, dead(7), 0, nil}, {wire.Del, blob(7, 0), 0, nil},
	} {
		for deeds := 1; deeds < 4; deeds++ {
			for keep := range 65 {
				n := full(t, 3)
				was := content(n, 3)
				m := ask(n, r.kind, 5, r.x)
				must(t, n.Arm(deeds))
				why := fmt.Sprintf("P17.1: %v with %d deeds, %d bytes kept", r, deeds, keep)
				if deeds > 2 {
					answers(t, why, n, m, 0)
				} else {
					refuses(t, why, n, m, api.ErrDown)
					refuses(t, why+", again", n, m, api.ErrDown)
				}
				state(t, why, n, deeds > 2, 0, 3)
				restart(t, n, every(0, disk.Pick{Keep: keep}))
				state(t, why, n, true, 1, 3)
				size := (32 + len(r.x.Data) + 7) / 8 * 8
				if r.kind == wire.Del {
					size = 32
				}
				whole := deeds > 1 || keep >= size
				if now := content(n, 3); whole == maps.EqualFunc(now, was, needle.Same) {
					t.Errorf("%s: %v, was %v", why, now, was)
				}
				answers(t, why+", in the next life", n, ask(n, wire.Lay, 5, r.x), again(r, whole))
			}
		}
	}
}

// again tells what a lay of what a row had asked for is answered, if that is there.
func again(r row, whole bool) api.Code {
	if r.kind == wire.Del && !whole {
		return api.ErrThere // of no data, over the blob that is there still
	}
	return 0
}

// A request that does no deed is answered on a disk that would end with the next one.
func TestRequestsWithoutADeed(t *testing.T) {
	n := spoilt(t)
	must(t, n.Arm(1))
	for i, r := range rows {
		if r.code != 0 || r.kind == wire.Get {
			answers(t, fmt.Sprint("P17.1: on an armed disk: ", r), n, ask(n, r.kind, uint64(i), r.x), r.code, r.told...)
		}
	}
	m := wire.Msg{From: 9, To: 2, Kind: wire.Put, Vol: 4, Id: 999}
	answers(t, "P17.1: on an armed disk", n, m, api.ErrArg)
	refuses(t, "P17.1: on an armed disk", n, ask(n, wire.Put, 1000, blob(1, 1)), api.ErrDown)
}

// content tells what a volume has: each key's needle.
func content(n *node.Node, volume int) map[uint64]api.Needle {
	l := map[uint64]api.Needle{}
	v := n.Vol(volume)
	for _, p := range v.Keys(0, 9999) {
		x := api.Needle{Key: p.Key, Cookie: p.Cookie, Gone: true}
		if !p.Gone {
			x = sure(v.Get(p.Key, p.Cookie))
		}
		l[p.Key] = x
	}
	return l
}

// user is a node, and what was answered without an error.
type user struct {
	t    *testing.T
	n    *node.Node
	sure map[uint64]api.Needle // what is to be there behind any crash
	may  map[uint64]api.Needle // what a request that wasn't answered asked for: of one key
	id   uint64
	why  string
}

// ask asks a request, and once more: the answer is the same. It tells whether there
// was one.
func (u *user) ask(kind int, x api.Needle, told ...api.Needle) bool {
	u.t.Helper()
	u.id++
	m := ask(u.n, kind, u.id, x)
	u.may = map[uint64]api.Needle{}
	if kind == wire.Del {
		u.may[x.Key] = api.Needle{Key: x.Key, Cookie: x.Cookie, Gone: true}
	} else if kind != wire.Get {
		u.may[x.Key] = x
	}
	a, e := u.n.Handle(m)
	if e != nil {
		is(u.t, u.why, e, api.ErrDown)
		return false
	}
	if !wire.Same(a, reply(u.n, m, 0, told...)) {
		u.t.Fatalf("%s: Handle of %+v: %+v", u.why, short(m), short(a))
	}
	maps.Copy(u.sure, u.may)
	u.may = nil
	was := seen(u.n)
	tells(u.t, u.why+", again", u.n, m, a)
	stays(u.t, u.why+", again", u.n, was)
	return true
}

// do does an act of a life, which is a text of them: P is a put, L a lay, D a
// deletion, G a get, K and C a step of a checkpoint and of a compaction. It tells
// whether the node is up behind it.
func (u *user) do(act byte, i int) bool {
	u.t.Helper()
	key := uint64(100 + i)
	switch act {
	case 'P':
		return u.ask(wire.Put, blob(key, i))
	case 'L':
		return u.ask(wire.Lay, blob(key, i))
	case 'D', 'G':
		// The greatest key that isn't gone.
		key = 0
		for k, x := range u.sure {
			if !x.Gone {
				key = max(key, k)
			}
		}
		if act == 'G' {
			return u.ask(wire.Get, blob(key, 0), u.sure[key])
		}
		return u.ask(wire.Del, blob(key, 0))
	}
	_, e := u.n.Work(strings.IndexByte(" KC", act), 3)
	if e != nil && !errors.Is(e, api.ErrStale) {
		is(u.t, u.why, e, api.ErrDown)
		return false
	}
	return true
}

// there asks that behind a start all is there that is sure, and of what may be all
// or nothing.
func (u *user) there() {
	u.t.Helper()
	got := content(u.n, 3)
	for key, x := range u.may {
		if needle.Same(got[key], x) {
			maps.Copy(u.sure, u.may)
		}
	}
	if !maps.EqualFunc(got, u.sure, needle.Same) {
		u.t.Errorf("P17.4: %s: %v; want %v", u.why, got, u.sure)
	}
	u.may = nil
}

// lives have crashes at all places.
var lives = []string{
	"PPLDGP",
	"PKPKDKLKGKP",
	"PCDCPCPCGCCCLCCCC",
	"PLDCCCCCCCKKKKKPGD",
	"KPCPKDCPKCKGCKCLCKCKCPCCKCKD",
}

// What was answered without an error is there behind any crash, whenever the disk
// goes down, and whatever is picked; and life goes on.
func TestItFollows(t *testing.T) {
	for _, life := range lives {
		for deeds, over := 0, false; !over; deeds++ {
			if deeds > 200 || t.Failed() {
				t.Fatalf("P17.4: life %s has no end", life)
			}
			for names := range 5 {
				for _, p := range []disk.Pick{{}, {Keep: 1}, {Keep: 31, Turn: 8}, {Keep: 40}, {Keep: 1000}, {Keep: 1000, Turn: 255}} {
					u := &user{t: t, n: begun(t, 3), sure: map[uint64]api.Needle{}}
					must(t, u.n.Arm(deeds))
					u.why = fmt.Sprintf("life %s, %d deeds, %d names picked, %v", life, deeds, names, p)
					over = true
					for i := range len(life) {
						if !u.do(life[i], i) {
							over = false
							break
						}
					}
					for i := range 3 {
						restart(t, u.n, every(names, p))
						u.there()
						u.why += ", and a start"
						if !u.do('P', 50+i) || !u.do('D', 60) || !u.do('L', 70+i) {
							t.Fatalf("P17.4: %s: no answer", u.why)
						}
					}
				}
			}
		}
	}
}
