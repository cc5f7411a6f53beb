package node_test

import (
	"errors"
	"fmt"
	"math"
	"reflect"
	"slices"
	"strings"
	"testing"

	"corncrib/api"
	"corncrib/ckpt"
	"corncrib/compact"
	"corncrib/disk"
	"corncrib/needle"
	"corncrib/node"
	"corncrib/sample"
	"corncrib/vol"
	"corncrib/wire"
)

// server is a node, or what does the same in other words.
type server interface {
	Make(volume, most int) error
	Handle(m wire.Msg) (wire.Msg, error)
	Work(kind, volume int) (bool, error)
	Arm(deeds int) error
	Crash(p disk.Picks) error
	Start() error
	Up() bool
	Life() int
	Vol(volume int) *vol.Vol
	Disk() *disk.Disk
	Volumes() []int
}

// clerk is a node as the chapter tells it, word by word: lists that are looked
// through.
type clerk struct {
	d     *disk.Disk
	life  int
	off   bool
	shelf []*book
	told  []wire.Msg
}

// book is a volume, with its writer and its compactor.
type book struct {
	number, most int
	v            *vol.Vol
	w            *ckpt.Writer
	c            *compact.Compactor
}

func (c *clerk) Disk() *disk.Disk { return c.d }
func (c *clerk) Life() int        { return c.life }

func (c *clerk) Up() bool {
	c.off = c.off || c.d.Down()
	return !c.off
}

func (c *clerk) find(number int) *book {
	for _, b := range c.shelf {
		if b.number == number {
			return b
		}
	}
	return &book{}
}

func (c *clerk) Vol(number int) *vol.Vol { return c.find(number).v }

func (c *clerk) Volumes() []int {
	var l []int
	for number := range 9 { // the scripts have 3 to 6
		if c.Vol(number) != nil {
			l = append(l, number)
		}
	}
	return l
}

func (c *clerk) Make(number, most int) error {
	if !c.Up() {
		return api.ErrDown
	}
	v, e := vol.Make(c.d, number, most, 0)
	c.Up()
	if e != nil {
		return e
	}
	c.shelf = append([]*book{{number: number, most: most, v: v}}, c.shelf...)
	return nil
}

func (c *clerk) Arm(deeds int) error {
	if !c.Up() {
		return api.ErrDown
	}
	e := c.d.Arm(deeds)
	c.Up()
	return e
}

func (c *clerk) Crash(p disk.Picks) error {
	c.off, c.told = true, nil
	return c.d.Crash(p)
}

func (c *clerk) Start() error {
	if c.Up() || c.d.Down() {
		return api.ErrBusy
	}
	for _, number := range c.Volumes() {
		b := c.find(number)
		v, e := vol.Open(c.d, number, b.most)
		if sample.Is(e, api.ErrNone) {
			c.shelf = slices.DeleteFunc(c.shelf, func(b *book) bool { return b.number == number })
			continue
		}
		if e != nil {
			return e
		}
		*b = book{number: number, most: b.most, v: v}
	}
	c.life, c.off, c.told = c.life+1, c.d.Down(), nil
	return nil
}

func (c *clerk) Work(kind, number int) (bool, error) {
	if !c.Up() {
		return false, api.ErrDown
	}
	b := c.find(number)
	var done bool
	var e error
	switch {
	case kind == 1 && b.v != nil:
		if b.w == nil {
			b.w = sure(ckpt.New(c.d, b.v))
		}
		if done, e = b.w.Step(); done || e != nil {
			b.w = nil
		}
	case kind == 2 && b.v != nil:
		if b.c == nil {
			b.c = sure(compact.New(c.d, b.v))
		}
		if done, e = b.c.Step(); done || e != nil {
			b.c = nil
		}
	case kind == 1 || kind == 2:
		return false, api.ErrNone
	default:
		return false, api.ErrArg
	}
	if !c.Up() {
		return false, api.ErrDown
	}
	return done, e
}

func (c *clerk) Handle(m wire.Msg) (wire.Msg, error) {
	if !c.Up() {
		return wire.Msg{}, api.ErrDown
	}
	if !slices.Contains(kinds, m.Kind) || wire.Check(m) != nil || m.To != 2 {
		return wire.Msg{}, api.ErrArg
	}
	a := wire.Msg{From: 2, To: m.From, Kind: 5, Vol: m.Vol, Life: c.life, Id: m.Id}
	if m.Life != c.life {
		a.Code = 13
		return a, nil
	}
	for _, old := range c.told {
		if old.To == m.From && old.Id == m.Id {
			return old, nil
		}
	}
	if len(c.told) == 4096 {
		a.Code = 14
		return a, nil
	}
	switch v := c.Vol(m.Vol); {
	case !m.Has:
		a.Code = 1
	case v == nil:
		a.Code = 6
	default:
		a.Code = ask1(v, m)
		a.N, a.Has = c.beside(v, m, a.Code)
	}
	if !c.Up() {
		return wire.Msg{}, api.ErrDown
	}
	c.told = append(c.told, a)
	return a, nil
}

// ask1 asks a volume what a request asks, and tells the number of the code.
func ask1(v *vol.Vol, m wire.Msg) int {
	var e error
	switch m.Kind {
	case 1:
		e = v.Put(m.N)
	case 2:
		e = v.Lay(m.N)
	case 3:
		_, e = v.Get(m.N.Key, m.N.Cookie)
	case 4:
		e = v.Del(m.N.Key, m.N.Cookie)
	}
	for code := 1; code < 20; code++ {
		if errors.Is(e, api.Code(code)) {
			return code
		}
	}
	return 0
}

// beside tells the needle beside a code, read from the file's bytes.
func (c *clerk) beside(v *vol.Vol, m wire.Msg, code int) (api.Needle, bool) {
	if m.Kind == 2 || code != 7 && code != 8 && code != 9 && (code != 0 || m.Kind != 3) {
		return api.Needle{}, false
	}
	for _, p := range v.Keys(0, math.MaxInt) {
		if p.Key != m.N.Key {
			continue
		}
		if p.Gone {
			return api.Needle{Key: p.Key, Cookie: p.Cookie, Gone: true}, true
		}
		b, _ := c.d.Read(fmt.Sprintf("v%d.%d", m.Vol, v.Info().Gen), p.Off, (32+p.Len+7)/8*8)
		x, _, e := needle.Get(b)
		return x, e == nil && x.Key == p.Key && x.Cookie == p.Cookie && !x.Gone && len(x.Data) == p.Len
	}
	return api.Needle{}, false
}

// twins are a node and a clerk that get the same calls.
type twins struct {
	t   *testing.T
	l   [2]server
	log []string
}

func newTwins(t *testing.T) *twins {
	t.Helper()
	return &twins{t: t, l: [2]server{sure(node.New(2, plenty)), &clerk{d: sure(disk.New(plenty))}}}
}

func (w *twins) why() string { return strings.Join(w.log[max(0, len(w.log)-25):], ", ") }

// both does a call on both, and asks that both answer alike, and are alike then.
func (w *twins) both(what string, do func(s server) (wire.Msg, bool, error)) {
	w.t.Helper()
	var told [2]string
	for i, s := range w.l {
		m, done, e := do(s)
		m.N.Data = append([]byte{}, m.N.Data...)
		var at *api.At
		if errors.As(e, &at) {
			e = fmt.Errorf("at %s, %d: %w", at.File, at.Off, at.Err)
		}
		told[i] = fmt.Sprint(m, done, e)
	}
	w.log = append(w.log, what+": "+told[1])
	if told[0] != told[1] {
		w.t.Fatalf("P17.1 to P17.4: %s; it told %s", w.why(), told[0])
	}
	if got, want := shown(w.l[0]), shown(w.l[1]); !reflect.DeepEqual(got, want) {
		w.t.Fatalf("P17.1 to P17.4: %s; then %+v; want %+v", w.why(), got, want)
	}
}

// shown tells what is to be seen of a server.
func shown(s server) image {
	if n, is := s.(*node.Node); is {
		return seen(n)
	}
	d := s.Disk()
	x := image{up: s.Up(), down: d.Down(), life: s.Life(), used: d.Used(), volumes: s.Volumes(), names: d.Names()}
	for _, number := range x.volumes {
		x.info, x.keys = append(x.info, s.Vol(number).Info()), append(x.keys, s.Vol(number).Keys(0, math.MaxInt))
	}
	if !x.down {
		x.files = files(d)
	}
	return x
}

// request tells one, as bytes say it, most often a right one of this life.
func request(s server, call []byte) wire.Msg {
	key := uint64(call[1] % 12)
	m := wire.Msg{From: int(call[2] % 2), To: 2, Kind: 1 + int(call[1]/12%4), Vol: 3 + int(call[2]/2%3), Life: s.Life(), Id: uint64(call[3] % 64), Has: true}
	m.N = api.Needle{Key: key, Cookie: uint32(call[2] / 128), Data: sample.Bytes(int(call[3] % 5))}
	switch call[3] / 8 {
	case 0:
		m.Has, m.N = false, api.Needle{}
	case 1:
		m.Life += int(call[2]%3) - 1
	case 2:
		m.To = int(call[1])
	case 3, 4, 5, 6:
		m.N.Gone, m.N.Data = true, nil
	case 7:
		m.N.Gone = true
	case 8:
		m.Kind = int(call[1]) - 1
	}
	return m
}

const callSize = 4 // bytes of a call

// hand does something to a disk by hand.
func hand(s server, call []byte) error {
	d, v := s.Disk(), s.Vol(3)
	switch call[1] % 8 {
	case 0:
		return d.Arm(int(call[2] % 30))
	case 1:
		return d.Remove(fmt.Sprintf("m%d", 3+call[2]%3))
	case 2:
		return d.Spoil("m4", int(call[2]%2*20), 1)
	case 3:
		return v.Set(0, call[2]%2 == 0)
	case 4:
		return d.Create(fmt.Sprint("x", call[2]))
	default:
		return d.Spoil(fmt.Sprintf("v3.%d", v.Info().Gen), 16+int(call[2]), call[3])
	}
}

// do does a call, as bytes say it.
func (w *twins) do(call []byte) {
	w.t.Helper()
	volume := 3 + int(call[2]%4)
	plain := func(e error) (wire.Msg, bool, error) { return wire.Msg{}, false, e }
	picks := every(int(call[1]%6), disk.Pick{Keep: int(call[2]), Turn: call[3] & call[2]})
	switch kind := call[0] % 64; {
	case kind < 32:
		w.both(fmt.Sprintf("Handle %d", call[1:]), func(s server) (wire.Msg, bool, error) {
			m, e := s.Handle(request(s, call))
			return m, false, e
		})
	case kind < 54:
		w.both(fmt.Sprintf("Work of %d", volume), func(s server) (wire.Msg, bool, error) {
			done, e := s.Work([]int{1, 2, 1, 2, 1, 2, 0, 3}[call[1]%8], volume)
			return wire.Msg{}, done, e
		})
	case kind < 56:
		w.both(fmt.Sprintf("Make of %d", volume), func(s server) (wire.Msg, bool, error) {
			return plain(s.Make(volume, []int{plenty, 400, 15}[call[1]%3]))
		})
	case kind < 58:
		w.both("Arm", func(s server) (wire.Msg, bool, error) { return plain(s.Arm(int(call[1]%40) - 1)) })
	case kind < 60:
		w.both("Crash", func(s server) (wire.Msg, bool, error) { return plain(s.Crash(picks)) })
		w.both("Start", func(s server) (wire.Msg, bool, error) { return plain(s.Start()) })
	case kind == 60:
		w.both("Start", func(s server) (wire.Msg, bool, error) { return plain(s.Start()) })
	case kind == 61 && call[3]%4 == 0:
		w.both("a hand", func(s server) (wire.Msg, bool, error) { return plain(hand(s, call)) })
	case kind == 62 && call[3]%4 == 0 && w.l[0].Disk().Down():
		w.both("a disk's crash", func(s server) (wire.Msg, bool, error) { return plain(s.Disk().Crash(picks)) })
	}
	if !w.l[0].Up() && call[3]%2 == 0 {
		w.both("Crash", func(s server) (wire.Msg, bool, error) { return plain(s.Crash(picks)) })
		if call[1]%4 == 0 {
			// It may be spoilt: no start would tell another error any more.
			w.both("a hand takes 4 away", func(s server) (wire.Msg, bool, error) {
				return plain(errors.Join(s.Disk().Remove("m4"), s.Disk().Remove("v4.1"), s.Disk().SyncNames()))
			})
		}
		w.both("Start", func(s server) (wire.Msg, bool, error) { return plain(s.Start()) })
	}
}

// script holds a node against a clerk, call by call.
func script(t *testing.T, calls []byte) {
	t.Helper()
	w := newTwins(t)
	for volume := byte(0); volume < 3; volume++ {
		w.do([]byte{54, 0, volume, 1})
	}
	for ; len(calls) >= callSize; calls = calls[callSize:] {
		w.do(calls[:callSize])
	}
}

func TestAsTheModel(t *testing.T) {
	for i := range 150 {
		script(t, sample.Bytes(callSize*(100+3*i)))
	}
}

func FuzzAsTheModel(f *testing.F) {
	f.Add(sample.Bytes(400))
	f.Add([]byte{0, 7, 0, 200, 0, 31, 0, 201, 33, 0, 0, 0, 57, 3, 0, 0, 34, 1, 0, 0, 0, 8, 0, 202, 59, 2, 9, 0})
	f.Fuzz(func(t *testing.T, calls []byte) {
		script(t, calls)
	})
}
