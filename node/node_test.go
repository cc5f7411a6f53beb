package node_test

import (
	"errors"
	"fmt"
	"maps"
	"math"
	"reflect"
	"slices"
	"testing"

	"corncrib/api"
	"corncrib/disk"
	"corncrib/node"
	"corncrib/sample"
	"corncrib/vol"
	"corncrib/wire"
)

const plenty = 1 << 16 // a capacity, and a most, of no weight

// is asks that e is just this code, found by errors.Is; 0 is no error.
func is(t *testing.T, why string, e error, code api.Code) {
	t.Helper()
	if !sample.Is(e, code) {
		t.Errorf("%s: %v; want code %d", why, e, code)
	}
}

// isAt asks that e is just this code, wrapped in an api.At of this place.
func isAt(t *testing.T, why string, e error, code api.Code, file string, off int) {
	t.Helper()
	is(t, why, e, code)
	var at *api.At
	if !errors.As(e, &at) || at.File != file || at.Off != off {
		t.Errorf("%s: %v; want it at %s, %d", why, e, file, off)
	}
}

// must asks that nothing is wrong with what a test begins with.
func must(t *testing.T, errs ...error) {
	t.Helper()
	for i, e := range errs {
		if e != nil {
			t.Fatalf("call %d: %v", i, e)
		}
	}
}

// sure tells what was told without an error.
func sure[T any](x T, e error) T {
	if e != nil {
		panic(e)
	}
	return x
}

// blob tells a needle whose data hangs on its size alone.
func blob(key uint64, size int) api.Needle {
	return api.Needle{Key: key, Cookie: uint32(key) + 100, Data: sample.Bytes(size)}
}

// dead tells that the needle that blob tells is gone.
func dead(key uint64) api.Needle {
	return api.Needle{Key: key, Cookie: uint32(key) + 100, Gone: true}
}

// begun tells a node at the place 2, with these volumes.
func begun(t *testing.T, volumes ...int) *node.Node {
	t.Helper()
	n := sure(node.New(2, plenty))
	for _, v := range volumes {
		must(t, n.Make(v, plenty))
	}
	return n
}

// ask tells a request of the place 9 to the node, for volume 3, of the life that
// the node has.
func ask(n *node.Node, kind int, id uint64, x api.Needle) wire.Msg {
	return wire.Msg{From: 9, To: 2, Kind: kind, Vol: 3, Life: n.Life(), Id: id, Has: true, N: x}
}

// reply tells the answer to a request that a node is to tell.
func reply(n *node.Node, m wire.Msg, code api.Code, l ...api.Needle) wire.Msg {
	a := wire.Msg{From: m.To, To: m.From, Kind: 5, Vol: m.Vol, Life: n.Life(), Id: m.Id, Code: int(code)}
	for _, x := range l {
		a.Has, a.N = true, x
	}
	return a
}

// short tells a message without most of its data, so that a fault is told in one line.
func short(m wire.Msg) wire.Msg {
	m.N.Data = m.N.Data[:min(len(m.N.Data), 20)]
	return m
}

// tells asks that Handle tells just this answer.
func tells(t *testing.T, why string, n *node.Node, m, want wire.Msg) {
	t.Helper()
	got, e := n.Handle(m)
	if e != nil || !wire.Same(got, want) {
		t.Errorf("%s: Handle of %+v: %+v, %v; want %+v", why, short(m), short(got), e, short(want))
	}
}

// answers asks that Handle answers with this code, and this needle, if there is one.
func answers(t *testing.T, why string, n *node.Node, m wire.Msg, code api.Code, l ...api.Needle) {
	t.Helper()
	tells(t, why, n, m, reply(n, m, code, l...))
}

// refuses asks that Handle tells this error, and no answer beside it.
func refuses(t *testing.T, why string, n *node.Node, m wire.Msg, code api.Code) {
	t.Helper()
	got, e := n.Handle(m)
	if !sample.Is(e, code) || !wire.Same(got, wire.Msg{}) {
		t.Errorf("%s: Handle of %+v: %+v, %v; want code %d", why, short(m), short(got), e, code)
	}
}

// image is what is to be seen of a node.
type image struct {
	up, down   bool
	life, used int
	volumes    []int
	info       []vol.Info
	keys       [][]api.Pos
	names      []string
	files      map[string]string // none of a disk that is down
}

// seen tells what is to be seen of a node now.
func seen(n *node.Node) image {
	d := n.Disk()
	x := image{up: n.Up(), down: d.Down(), life: n.Life(), used: d.Used(), volumes: n.Volumes(), names: d.Names()}
	for _, number := range x.volumes {
		v := n.Vol(number)
		x.info, x.keys = append(x.info, v.Info()), append(x.keys, v.Keys(0, math.MaxInt))
	}
	if !x.down {
		x.files = files(d)
	}
	return x
}

// files tells what a disk that isn't down has.
func files(d *disk.Disk) map[string]string {
	m := map[string]string{}
	for _, name := range d.Names() {
		m[name] = string(sure(d.Read(name, 0, sure(d.Size(name)))))
	}
	return m
}

// stays asks that a node is as it was.
func stays(t *testing.T, why string, n *node.Node, was image) {
	t.Helper()
	if now := seen(n); !reflect.DeepEqual(now, was) {
		t.Errorf("%s: %+v; want it as it was, %+v", why, now, was)
	}
}

// has asks that a node's volume has just these needles, and is of no elder epoch.
func has(t *testing.T, why string, n *node.Node, volume int, l ...api.Needle) {
	t.Helper()
	v := n.Vol(volume)
	if i := v.Info(); v == nil || i.Number != volume || i.Epoch != 0 || i.Live+i.Gone != len(l) {
		t.Errorf("%s: volume %d: %+v; want %d keys", why, volume, i, len(l))
	}
	for _, x := range l {
		got, e := v.Get(x.Key, x.Cookie)
		if x.Gone {
			is(t, fmt.Sprintf("%s: volume %d: Get of %d, which is gone", why, volume, x.Key), e, api.ErrGone)
		} else if e != nil || !reflect.DeepEqual(got, x) && len(x.Data) > 0 {
			t.Errorf("%s: volume %d: Get of %d: %v, %v", why, volume, x.Key, got, e)
		}
	}
}

// state asks what a node tells of itself.
func state(t *testing.T, why string, n *node.Node, up bool, life int, volumes ...int) {
	t.Helper()
	if n.Up() != up || n.Life() != life || !slices.Equal(n.Volumes(), volumes) {
		t.Errorf("%s: Up %v, Life %d, Volumes %v; want %v, %d, %v", why, n.Up(), n.Life(), n.Volumes(), up, life, volumes)
	}
	if n.Disk() == nil {
		t.Errorf("%s: no disk", why)
	}
	for _, number := range []int{-1, 0, 1, 2, 3, 4, 5, 9, 65535, 65536, 3 + 1<<32, math.MinInt, math.MaxInt} {
		v := n.Vol(number)
		if there := slices.Contains(volumes, number); (v != nil) != there || there && v.Info().Number != number {
			t.Errorf("%s: Vol of %d: %+v; want one: %v", why, number, v.Info(), there)
		}
	}
}

// restart crashes and starts a node.
func restart(t *testing.T, n *node.Node, p disk.Picks) {
	t.Helper()
	must(t, n.Crash(p), n.Start())
}

// every tells picks of all names and, of each file, alike.
func every(names int, p disk.Pick) disk.Picks {
	return disk.Picks{Names: names, Files: slices.Repeat([]disk.Pick{p}, 60)}
}

// Numbers at their ends, and whether they may be.
var (
	places = map[int]bool{
		math.MinInt: false, math.MinInt + 2: false, -1 << 32: false, -256: false, -1: false, 0: true, 1: true, 2: true, 127: true, 128: true, 254: true,
		255: true, 256: false, 257: false, 258: false, 65536: false, 1 << 31: false, 1 << 32: false, 1<<32 + 2: false, math.MaxInt: false,
	}
	rooms = map[int]bool{
		math.MinInt: false, -1 << 32: false, -1: false, 0: true, 1: true, 39: true, 40: true, plenty: true, 1 << 30: true, 1<<30 + 1: false, 1 << 32: false,
		1<<32 + 40: false, math.MaxInt: false,
	}
	numbers = map[int]bool{
		math.MinInt: false, -1: false, 0: false, 1: true, 3: true, 65535: true, 65536: false, 65539: false, 3 + 1<<32: false, math.MaxInt: false,
	}
	mosts = map[int]bool{
		math.MinInt: false, -1: false, 0: false, 15: false, 16: true, 17: true, 1 << 24: true, 1<<24 + 1: false, 1<<32 + 16: false, math.MaxInt: false,
	}
)

func TestNew(t *testing.T) {
	for place, isPlace := range places {
		for room, isRoom := range rooms {
			why := fmt.Sprintf("P17.1: New(%d, %d)", place, room)
			n, e := node.New(place, room)
			if !isPlace || !isRoom {
				is(t, why, e, api.ErrArg)
				if n != nil {
					t.Errorf("%s: a node beside the error", why)
				}
				continue
			}
			is(t, why, e, 0)
			state(t, why, n, true, 0)
			if d := n.Disk(); d.Used() != 0 || len(d.Names()) != 0 || d.Down() {
				t.Errorf("%s: the disk has %d bytes, %v", why, d.Used(), d.Names())
			}
			must(t, n.Disk().Create("x"))
			want := api.ErrFull
			if room >= 40 {
				want = 0
			}
			is(t, why+", and 40 bytes", n.Disk().Append("x", make([]byte, 40)), want)
		}
	}
}

// A node's place is that to which requests come.
func TestPlaces(t *testing.T) {
	for place, can := range places {
		if !can {
			continue
		}
		n := sure(node.New(place, plenty))
		must(t, n.Make(3, plenty))
		for to := range places {
			m := ask(n, wire.Put, uint64(to), blob(uint64(to), 5))
			m.To = to
			why := fmt.Sprintf("P17.1: at the place %d", place)
			if to == place {
				answers(t, why, n, m, 0)
				continue
			}
			was := seen(n)
			refuses(t, why, n, m, api.ErrArg)
			stays(t, why, n, was)
		}
		for _, kind := range kindsOfWork {
			_, e := n.Work(kind, 3)
			is(t, fmt.Sprintf("P17.2: Work(%d, 3) at the place %d", kind, place), e, map[bool]api.Code{false: api.ErrArg}[kind == 1 || kind == 2])
		}
	}
}

func TestNewTellsAnotherNode(t *testing.T) {
	a, b := begun(t, 3), begun(t, 3)
	answers(t, "P17.1: one node", a, ask(a, wire.Put, 1, blob(7, 5)), 0)
	has(t, "P17.1: another node", b, 3)
	answers(t, "P17.1: another node", b, ask(b, wire.Get, 1, blob(7, 0)), api.ErrNone)
	must(t, a.Arm(0))
	state(t, "P17.1: another node", b, true, 0, 3)
	restart(t, a, disk.Picks{})
	state(t, "P17.1: another node", b, true, 0, 3)
}

// kindsOfWork are numbers that a kind of work may be, or not.
var kindsOfWork = []int{math.MinInt, -1, 0, 1, 2, 3, 4, 255, 256, 257, 258, 1<<32 + 1, math.MaxInt}

func TestNoNode(t *testing.T) {
	var n *node.Node
	for number := range numbers {
		for most := range mosts {
			is(t, fmt.Sprintf("P17.1: Make(%d, %d) of no node", number, most), n.Make(number, most), api.ErrNil)
		}
		for _, kind := range kindsOfWork {
			done, e := n.Work(kind, number)
			is(t, fmt.Sprintf("P17.2: Work(%d, %d) of no node", kind, number), e, api.ErrNil)
			if done {
				t.Errorf("P17.2: Work(%d, %d) of no node: done", kind, number)
			}
		}
		if n.Vol(number) != nil {
			t.Errorf("P17.3: Vol(%d) of no node: one", number)
		}
	}
	whole := begun(t, 3)
	refuses(t, "P17.1: no node", n, ask(whole, wire.Put, 1, blob(7, 5)), api.ErrNil)
	for _, m := range wrongRequests(whole) {
		refuses(t, "P17.1: no node", n, m, api.ErrNil)
	}
	for _, deeds := range []int{math.MinInt, -1, 0, 1, math.MaxInt} {
		is(t, fmt.Sprintf("P17.3: Arm(%d) of no node", deeds), n.Arm(deeds), api.ErrNil)
	}
	for range 2 {
		is(t, "P17.3: Crash of no node", n.Crash(every(9, disk.Pick{Keep: -1})), api.ErrNil)
		is(t, "P17.3: Start of no node", n.Start(), api.ErrNil)
		if n.Up() || n.Life() != 0 || n.Disk() != nil || len(n.Volumes()) != 0 {
			t.Errorf("P17.3: no node: Up %v, Life %d, Disk %v, Volumes %v", n.Up(), n.Life(), n.Disk(), n.Volumes())
		}
	}
}

// The chapter says nothing of a node that New didn't make, but R1 does: no call of
// it panics.
func TestNodeThatNewDidNotMake(t *testing.T) {
	n := &node.Node{}
	for range 3 {
		_ = n.Make(3, plenty)
		_, _ = n.Handle(ask(n, wire.Put, 1, blob(7, 5)))
		for _, to := range []int{0, 2} {
			_, _ = n.Handle(wire.Msg{To: to, Kind: wire.Get, Vol: 3, Life: n.Life()})
		}
		for _, kind := range kindsOfWork {
			_, _ = n.Work(kind, 3)
		}
		_ = n.Arm(0)
		_, _, _, _ = n.Up(), n.Vol(3), n.Disk(), n.Volumes()
		_ = n.Crash(disk.Picks{})
		_ = n.Start()
	}
}

func TestMakeOfNumbers(t *testing.T) {
	for number, isNumber := range numbers {
		for most, isMost := range mosts {
			n := begun(t, 4)
			was := seen(n)
			why := fmt.Sprintf("P17.1: Make(%d, %d)", number, most)
			e := n.Make(number, most)
			if !isNumber || !isMost {
				is(t, why, e, api.ErrArg)
				stays(t, why, n, was)
				continue
			}
			is(t, why, e, 0)
			volumes := []int{4, number}
			slices.Sort(volumes)
			for life := range 3 {
				state(t, why, n, true, life, volumes...)
				if i := n.Vol(number).Info(); i != (vol.Info{Number: number, Gen: 1, Size: 16}) {
					t.Errorf("%s: %+v", why, i)
				}
				restart(t, n, disk.Picks{})
			}
		}
	}
}

func TestVolumesInOrder(t *testing.T) {
	n := begun(t)
	var want []int
	for i, number := range []int{9, 3, 65535, 1, 4, 2} {
		must(t, n.Make(number, plenty))
		want = append(want, number)
		slices.Sort(want)
		state(t, "P17.3: Volumes", n, true, 0, want...)
		l := n.Volumes()
		for i := range l {
			l[i] = -1
		}
		state(t, "P17.3: Volumes, with what was told changed", n, true, 0, want...)
		if i%2 == 0 {
			is(t, "P17.1: Make of one that is there", n.Make(number, plenty), api.ErrThere)
		}
	}
	must(t, n.Crash(disk.Picks{}))
	state(t, "P17.3: Volumes behind a crash", n, false, 0, want...)
	must(t, n.Start())
	state(t, "P17.3: Volumes behind a start", n, true, 1, want...)
}

func TestMakeOfOneThatIsThere(t *testing.T) {
	n := begun(t)
	must(t, n.Make(3, 16+40))
	answers(t, "P17.1: put", n, ask(n, wire.Put, 1, blob(7, 5)), 0)
	was, v := seen(n), n.Vol(3)
	is(t, "P17.1: Make of one that is there", n.Make(3, plenty), api.ErrThere)
	stays(t, "P17.1: Make of one that is there", n, was)
	if n.Vol(3) != v {
		t.Errorf("P17.1: Make of one that is there: another one is the node's")
	}
	// It has as many bytes at most as at first, in the next life as well.
	for life := range 3 {
		answers(t, "P17.1: Make with a most", n, ask(n, wire.Put, 2, blob(8, 0)), api.ErrFull)
		answers(t, "P17.1: Make with a most", n, ask(n, wire.Get, 3, blob(7, 0)), 0, blob(7, 5))
		state(t, "P17.1: Make with a most", n, true, life, 3)
		restart(t, n, disk.Picks{})
	}
}

// Volumes of other mosts: each has its own, in each life.
func TestMosts(t *testing.T) {
	n := begun(t)
	for i := range 5 {
		must(t, n.Make(5-i, 16+32*i))
	}
	for life := range 3 {
		for i := range 5 {
			for key := range i {
				m := ask(n, wire.Lay, uint64(10*i+key), blob(uint64(key), 0))
				m.Vol = 5 - i
				answers(t, fmt.Sprint("P17.1: most ", 16+32*i, ", life ", life), n, m, 0)
			}
			m := ask(n, wire.Put, uint64(10*i+9), blob(99, 0))
			m.Vol = 5 - i
			answers(t, fmt.Sprint("P17.1: most ", 16+32*i, ", life ", life), n, m, api.ErrFull)
		}
		restart(t, n, disk.Picks{})
	}
}

func TestMakeWithoutRoom(t *testing.T) {
	for room, code := range map[int]api.Code{0: api.ErrFull, 15: api.ErrFull, 16: api.ErrFull, 39: api.ErrFull, 40: 0, 79: 0} {
		n := sure(node.New(2, room))
		is(t, fmt.Sprint("P17.1: Make on a disk of ", room), n.Make(3, plenty), code)
		var volumes []int
		if code == 0 {
			volumes = []int{3}
			is(t, fmt.Sprint("P17.1: a second Make on a disk of ", room), n.Make(4, plenty), api.ErrFull)
		}
		state(t, fmt.Sprint("P17.1: Make on a disk of ", room), n, true, 0, volumes...)
		m := ask(n, wire.Get, 1, blob(7, 0))
		m.Vol = 4
		answers(t, "P17.1: a volume for which there was no room", n, m, api.ErrNone)
		_, e := n.Work(1, 4)
		is(t, "P17.1: work of a volume for which there was no room", e, api.ErrNone)
		restart(t, n, every(99, disk.Pick{Keep: 99}))
		state(t, fmt.Sprint("P17.1: Make on a disk of ", room, ", and a start"), n, true, 1, volumes...)
	}
	n := begun(t, 3)
	for i := range 61 {
		must(t, n.Disk().Create(fmt.Sprint("x", i)))
	}
	is(t, "P17.1: Make beside 63 files", n.Make(4, plenty), api.ErrFull)
	state(t, "P17.1: Make beside 63 files", n, true, 0, 3)
}

func TestMakeOfANodeThatIsNotUp(t *testing.T) {
	for why, n := range offNodes(t) {
		was := seen(n)
		for number := range numbers {
			for most := range mosts {
				is(t, fmt.Sprintf("P17.1: Make(%d, %d) of a node %s", number, most, why), n.Make(number, most), api.ErrDown)
			}
		}
		stays(t, "P17.1: Make of a node "+why, n, was)
		is(t, "P17.1: Make of one that is there, of a node "+why, n.Make(3, plenty), api.ErrDown)
		stays(t, "P17.1: Make of a node "+why, n, was)
	}
}

// offNodes tells nodes with volume 3, in which is blob(7, 5), that aren't up, by how
// that came about.
func offNodes(t *testing.T) map[string]*node.Node {
	t.Helper()
	l := map[string]*node.Node{}
	for _, why := range []string{"that crashed", "whose disk was armed with 0", "whose disk is down by hand", "whose disk went down", "that crashed twice", "that couldn't start"} {
		n := begun(t, 3)
		must(t, n.Vol(3).Put(blob(7, 5)))
		switch why {
		case "that crashed":
			must(t, n.Crash(disk.Picks{}))
		case "whose disk was armed with 0":
			must(t, n.Arm(0))
		case "whose disk is down by hand":
			must(t, n.Disk().Arm(0))
		case "whose disk went down":
			must(t, n.Arm(1))
			_, e := n.Handle(ask(n, wire.Put, 1, blob(8, 5)))
			is(t, why, e, api.ErrDown)
		case "that crashed twice":
			restart(t, n, disk.Picks{})
			must(t, n.Arm(0), n.Crash(disk.Picks{}), n.Crash(disk.Picks{}))
		case "that couldn't start":
			must(t, n.Disk().Spoil("m3", 3, 1), n.Crash(disk.Picks{}))
			if n.Start() == nil {
				t.Fatal("P17.3: Start of a volume whose manifest is spoilt")
			}
		}
		l[why] = n
	}
	return l
}

// A disk that ends at each of Make's deeds: without all of them the volume isn't
// the node's; if just the last one was done it is, but the node isn't up.
func TestMakeOfADiskThatEnds(t *testing.T) {
	last := 0
	for deeds := range 20 {
		n := begun(t, 4)
		must(t, n.Arm(deeds))
		e := n.Make(3, plenty)
		why := fmt.Sprintf("P17.1: Make with %d deeds", deeds)
		down := n.Disk().Down()
		if e == nil && down {
			last = deeds
		}
		if e == nil {
			state(t, why, n, !down, 0, 3, 4)
			restart(t, n, disk.Picks{})
			state(t, why+", and a start", n, true, 1, 3, 4)
			continue
		}
		if last > 0 {
			t.Errorf("%s: %v", why, e)
		}
		is(t, why, e, api.ErrDown)
		state(t, why, n, false, 0, 4)
		is(t, why+", and once more", n.Make(3, plenty), api.ErrDown)
		restart(t, n, every(deeds, disk.Pick{Keep: plenty}))
		state(t, why+", and a start", n, true, 1, 4)
		answers(t, why+", and a start", n, ask(n, wire.Get, 1, blob(7, 0)), api.ErrNone)
	}
	if last == 0 {
		t.Errorf("P17.1: Make with the deeds that it needs: none is the last one")
	}
}

// A volume that was made anew, as it was taken away by hand, is another one, and
// nothing of the elder one is under way.
func TestMakeOfOneThatWasTakenAway(t *testing.T) {
	for _, kind := range []int{1, 2} {
		n := begun(t, 3)
		must(t, n.Vol(3).Put(blob(7, 5)))
		sure(n.Work(kind, 3))
		for _, name := range n.Disk().Names() {
			must(t, n.Disk().Remove(name))
		}
		is(t, "P17.1: Make of one that was taken away", n.Make(3, plenty), 0)
		has(t, "P17.1: Make of one that was taken away", n, 3)
		answers(t, "P17.1: Make of one that was taken away", n, ask(n, wire.Put, 1, blob(8, 5)), 0)
		steps := 0
		for done := false; !done && steps < 9; steps++ {
			done = sure(n.Work(kind, 3))
		}
		if want := []int{0, 5, 3}[kind]; steps != want {
			t.Errorf("P17.2: Work(%d) of one that was made anew: %d steps; want %d", kind, steps, want)
		}
		restart(t, n, disk.Picks{})
		has(t, "P17.1: Make of one that was taken away, and a start", n, 3, blob(8, 5))
	}
}

// The chapter's example.
func TestExample(t *testing.T) {
	n := begun(t, 3)
	m := ask(n, wire.Put, 40, api.Needle{Key: 7, Cookie: 9, Data: []byte("maize")})
	for range 2 {
		answers(t, "P17.4: a put that comes twice", n, m, 0)
	}
	if i := n.Vol(3).Info(); i.Live != 1 || i.Size != 16+40 {
		t.Errorf("P17.4: a put that comes twice: %+v", i)
	}
	if got := maps.Keys(files(n.Disk())); !slices.Equal(slices.Sorted(got), []string{"m3", "v3.1"}) {
		t.Errorf("P17.4: a put that comes twice: files %v", n.Disk().Names())
	}
}
