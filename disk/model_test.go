package disk_test

import (
	"bytes"
	"fmt"
	"maps"
	"slices"
	"strings"
	"testing"

	"corncrib/api"
	"corncrib/disk"
	"corncrib/sample"
)

// store has a disk's calls: a disk has them, and what it is held against.
type store interface {
	Create(name string) error
	Append(name string, b []byte) error
	Read(name string, off, n int) ([]byte, error)
	Size(name string) (int, error)
	Sync(name string) error
	SyncNames() error
	Rename(from, to string) error
	Remove(name string) error
	Cut(name string, n int) error
	Names() []string
	Used() int
	Arm(n int) error
	Down() bool
	Crash(p disk.Picks) error
	Spoil(name string, off int, bits byte) error
}

// page is a file of the model: each byte knows whether it lasts.
type page struct {
	bytes []byte
	sure  []bool
}

// model is a disk in other words: it keeps all files that ever were, and how
// the names stood behind each deed of names that doesn't last.
type model struct {
	capacity int
	pages    []*page
	ways     []map[string]int // the first one lasts, the last one is now
	deeds    int              // till it is down; below 0: it isn't armed
}

func newModel(capacity int) *model {
	return &model{capacity: capacity, ways: []map[string]int{{}}, deeds: -1}
}

func (m *model) now() map[string]int { return m.ways[len(m.ways)-1] }

// page tells a name's file, or why there is none.
func (m *model) page(name string) (*page, error) {
	if m.Down() {
		return nil, api.ErrDown
	}
	if i, ok := m.now()[name]; ok {
		return m.pages[i], nil
	}
	return nil, api.ErrNone
}

func (m *model) done() error {
	if m.deeds > 0 {
		m.deeds--
	}
	return nil
}

// turn does a deed of names upon a copy of how they stand.
func (m *model) turn(how func(names map[string]int)) error {
	names := maps.Clone(m.now())
	how(names)
	m.ways = append(m.ways, names)
	return m.done()
}

func mayBe(name string) bool {
	return len(name) > 0 && len(name) <= 32 && strings.Trim(name, "abcdefghijklmnopqrstuvwxyz0123456789.") == ""
}

func (m *model) Create(name string) error {
	_, e := m.page(name)
	switch {
	case e == api.ErrDown:
		return e
	case !mayBe(name):
		return api.ErrArg
	case e == nil:
		return api.ErrThere
	case len(m.now()) == 64:
		return api.ErrFull
	}
	m.pages = append(m.pages, &page{})
	return m.turn(func(names map[string]int) { names[name] = len(m.pages) - 1 })
}

func (m *model) Append(name string, b []byte) error {
	p, e := m.page(name)
	switch {
	case e != nil:
		return e
	case len(p.bytes)+len(b) > 1<<24:
		return api.ErrLong
	case m.Used()+len(b) > m.capacity:
		return api.ErrFull
	}
	p.bytes = slices.Concat(p.bytes, b)
	p.sure = append(p.sure, make([]bool, len(b))...)
	return m.done()
}

func (m *model) Read(name string, off, n int) ([]byte, error) {
	p, e := m.page(name)
	switch {
	case e != nil:
		return nil, e
	case off < 0 || n < 0:
		return nil, api.ErrArg
	case off+n > len(p.bytes):
		return nil, api.ErrShort
	}
	return bytes.Clone(p.bytes[off : off+n]), nil
}

func (m *model) Size(name string) (int, error) {
	p, e := m.page(name)
	if e != nil {
		return 0, e
	}
	return len(p.bytes), nil
}

func (m *model) Sync(name string) error {
	p, e := m.page(name)
	if e != nil {
		return e
	}
	p.settle()
	return m.done()
}

// settle makes all bytes last.
func (p *page) settle() {
	for i := range p.sure {
		p.sure[i] = true
	}
}

func (m *model) SyncNames() error {
	if m.Down() {
		return api.ErrDown
	}
	m.ways = m.ways[len(m.ways)-1:]
	return m.done()
}

func (m *model) Rename(from, to string) error {
	_, e := m.page(from)
	switch {
	case e != nil:
		return e
	case !mayBe(to):
		return api.ErrArg
	}
	return m.turn(func(names map[string]int) {
		i := names[from]
		delete(names, from)
		names[to] = i
	})
}

func (m *model) Remove(name string) error {
	if _, e := m.page(name); e != nil {
		return e
	}
	return m.turn(func(names map[string]int) { delete(names, name) })
}

func (m *model) Cut(name string, n int) error {
	p, e := m.page(name)
	switch {
	case e != nil:
		return e
	case n < 0 || n > len(p.bytes):
		return api.ErrArg
	}
	p.bytes, p.sure = p.bytes[:n:n], p.sure[:n:n]
	p.settle()
	return m.done()
}

func (m *model) Names() []string { return slices.Sorted(maps.Keys(m.now())) }

func (m *model) Used() int {
	used := 0
	for _, i := range m.now() {
		used += len(m.pages[i].bytes)
	}
	return used
}

func (m *model) Arm(n int) error {
	if m.Down() {
		return api.ErrDown
	}
	if n < 0 {
		return api.ErrArg
	}
	m.deeds = n
	return nil
}

func (m *model) Down() bool { return m.deeds == 0 }

func (m *model) Crash(p disk.Picks) error {
	names := m.ways[min(max(p.Names, 0), len(m.ways)-1)]
	m.ways, m.deeds = []map[string]int{names}, -1
	for _, i := range names {
		var pick disk.Pick
		if i < len(p.Files) {
			pick = p.Files[i]
		}
		m.pages[i].fall(pick)
	}
	return nil
}

// fall goes byte by byte: one that doesn't last stays, if it is picked.
func (p *page) fall(pick disk.Pick) {
	var left []byte
	stay := 0
	for i, x := range p.bytes {
		if p.sure[i] {
			left = append(left, x)
		} else if stay < pick.Keep {
			left = append(left, x)
			stay++
		}
	}
	if stay > 0 {
		left[len(left)-1] ^= pick.Turn
	}
	p.bytes, p.sure = left, make([]bool, len(left))
	p.settle()
}

func (m *model) Spoil(name string, off int, bits byte) error {
	p, e := m.page(name)
	switch {
	case e != nil:
		return e
	case off < 0 || off >= len(p.bytes):
		return api.ErrArg
	}
	p.bytes[off] ^= bits
	return nil
}

// call is one call, as bytes say it.
type call struct {
	kind     byte
	from, to string
	n, m     int
}

const callSize = 5 // bytes of a call

// nth tells a name, mostly one that may be.
func nth(x byte, all int) string {
	if x > 250 {
		return []string{"", "A", "a/b", strings.Repeat("a", 33), "\xff"}[x-251]
	}
	return fmt.Sprint("f", int(x)%all)
}

func decoded(b []byte, all int) call {
	return call{kind: b[0] % 32, from: nth(b[1], all), to: nth(b[2], all), n: int(b[3])%20 - 2, m: int(b[4])%20 - 2}
}

// picks tells picks that hang on the call's numbers.
func (c call) picks() disk.Picks {
	p := disk.Picks{Names: c.n}
	for i := range (c.m + 2) * 20 {
		p.Files = append(p.Files, disk.Pick{Keep: (i*7+c.n*3+c.m)%11 - 2, Turn: byte(i * c.m * 37)})
	}
	return p
}

// do does a call, and tells what it tells.
func (c call) do(s store) string {
	switch c.kind {
	case 0, 1, 2, 3:
		return fmt.Sprint("Create ", c.from, s.Create(c.from))
	case 4, 5, 6, 7, 8, 9:
		b := sample.Bytes(max(c.n, 0))
		return fmt.Sprint("Append ", c.from, b, s.Append(c.from, b))
	case 10:
		b, e := s.Read(c.from, c.n, c.m)
		return fmt.Sprint("Read ", c.from, c.n, c.m, " ", b, e)
	case 11, 12, 13:
		return fmt.Sprint("Sync ", c.from, s.Sync(c.from))
	case 14, 15:
		return fmt.Sprint("SyncNames ", s.SyncNames())
	case 16, 17, 18:
		return fmt.Sprint("Rename ", c.from, c.to, s.Rename(c.from, c.to))
	case 19, 20:
		return fmt.Sprint("Remove ", c.from, s.Remove(c.from))
	case 21, 22:
		return fmt.Sprint("Cut ", c.from, c.n, s.Cut(c.from, c.n))
	case 23:
		return fmt.Sprint("Arm ", c.n, s.Arm(c.n))
	case 24, 25:
		return fmt.Sprint("Spoil ", c.from, c.n, c.m, s.Spoil(c.from, c.n, byte(c.m)))
	case 26:
		n, e := s.Size(c.to)
		return fmt.Sprint("Size ", c.to, n, e)
	}
	if c.kind < 30 && !s.Down() {
		return ""
	}
	return fmt.Sprint("Crash ", c.picks(), s.Crash(c.picks()))
}

// look tells all that there is to be seen, where it can be seen.
func look(s store) string {
	var b strings.Builder
	fmt.Fprint(&b, s.Down(), " ", s.Used(), ":")
	for _, name := range s.Names() {
		n, e := s.Size(name)
		text, wrong := s.Read(name, 0, n)
		fmt.Fprintf(&b, " %s %d %v %x %v", name, n, e, text, wrong)
	}
	return b.String()
}

// alike holds a disk against the model, call by call, on so many names.
func alike(t *testing.T, capacity, all int, script []byte) {
	t.Helper()
	d, e := disk.New(capacity)
	if e != nil {
		t.Fatalf("P7.1: New(%d): %v", capacity, e)
	}
	m := newModel(capacity)
	var done []string
	for ; len(script) >= callSize; script = script[callSize:] {
		c := decoded(script, all)
		got, want := c.do(d), c.do(m)
		done = append(done, got)
		if got != want {
			t.Fatalf("P7.1 to P7.3: told %s; want %s; behind\n%s", got, want, strings.Join(done, "\n"))
		}
		if got, want := look(d), look(m); got != want {
			t.Fatalf("P7.1 to P7.4: there is %s; want %s; behind\n%s", got, want, strings.Join(done, "\n"))
		}
	}
}

func TestAsTheModel(t *testing.T) {
	for i := range 300 {
		alike(t, 60+i, 3+i%6, sample.Bytes(1500+i))
	}
	// So many names that there are 64 files now and then.
	for i := range 8 {
		alike(t, plenty, 200, sample.Bytes(10000+i))
	}
	alike(t, 0, 3, sample.Bytes(3000))
}

func FuzzAsTheModel(f *testing.F) {
	f.Add(100, sample.Bytes(200))
	f.Add(0, sample.Bytes(50))
	f.Fuzz(func(t *testing.T, capacity int, script []byte) {
		alike(t, min(max(capacity, 0), 1<<30), 4, script)
	})
}
