package vol_test

import (
	"bytes"
	"encoding/binary"
	"fmt"
	"hash/crc32"
	"maps"
	"slices"
	"strings"
	"testing"

	"corncrib/api"
	"corncrib/disk"
	"corncrib/needle"
	"corncrib/sample"
	"corncrib/vol"
)

var castagnoli = crc32.MakeTable(crc32.Castagnoli)

// record is a needle, and where it was written.
type record struct {
	n   api.Needle
	off int
}

// model is a volume in other words: the bytes that its file should have, and a
// log of what was written, in which the last one of a key is looked for.
type model struct {
	gen, epoch, most int
	sealed           bool
	file             []byte
	log              []record
	marked           int // upto where the checkpoint is, if there is one
	point            []record
	names            map[string]bool // files that the next Open removes
}

func newModel(most int) *model {
	return &model{gen: 1, epoch: 5, most: most, file: []byte(super(3, 1)), names: map[string]bool{}}
}

// parse tells the needle with which bytes begin, and its size: 0, and what is
// wrong, if there is none.
func parse(b []byte) (api.Needle, int, api.Code) {
	if len(b) < 32 {
		return api.Needle{}, 0, api.ErrShort
	}
	word := binary.LittleEndian.Uint32
	size := int(word(b[20:]))
	if string(b[:4]) != "LEEN" || word(b[4:]) > 1 || word(b[28:]) != 0 || size > 4096 || word(b[4:]) == 1 && size > 0 {
		return api.Needle{}, 0, api.ErrForm
	}
	whole := 32 + (size+7)/8*8
	if len(b) < whole {
		return api.Needle{}, 0, api.ErrShort
	}
	if crc32.Checksum(slices.Concat(b[:24], b[32:32+size]), castagnoli) != word(b[24:]) {
		return api.Needle{}, 0, api.ErrSum
	}
	if strings.Trim(string(b[32+size:whole]), "\x00") != "" {
		return api.Needle{}, 0, api.ErrForm
	}
	return api.Needle{Key: binary.LittleEndian.Uint64(b[8:]), Cookie: word(b[16:]), Gone: word(b[4:]) == 1, Data: b[32 : 32+size]}, whole, 0
}

// last tells a key's newest record.
func (m *model) last(key uint64) (record, bool) {
	for _, r := range slices.Backward(m.log) {
		if r.n.Key == key {
			return r, true
		}
	}
	return record{}, false
}

// newest tells the newest records of all keys, by the keys.
func (m *model) newest() []record {
	byKey := map[uint64]record{}
	for _, r := range m.log {
		byKey[r.n.Key] = r
	}
	var l []record
	for _, key := range slices.Sorted(maps.Keys(byKey)) {
		l = append(l, byKey[key])
	}
	return l
}

// places tells records as positions.
func places(l []record) []api.Pos {
	var all []api.Pos
	for _, r := range l {
		all = append(all, api.Pos{Key: r.n.Key, Off: r.off, Len: len(r.n.Data), Cookie: r.n.Cookie, Gone: r.n.Gone})
	}
	return all
}

func (m *model) write(n api.Needle) api.Code {
	b := text(n)
	if len(m.file)+len(b) > m.most {
		return api.ErrFull
	}
	m.log = append(m.log, record{n, len(m.file)})
	m.file = slices.Concat(m.file, b)
	return 0
}

func (m *model) put(n api.Needle) api.Code {
	r, has := m.last(n.Key)
	switch {
	case n.Gone:
		return api.ErrArg
	case len(n.Data) > 4096:
		return api.ErrLong
	case m.sealed:
		return api.ErrSealed
	case has && r.n.Gone:
		return api.ErrGone
	case has:
		return api.ErrThere
	}
	return m.write(n)
}

// asked tells why a key's blob isn't told to who has this cookie.
func (m *model) asked(key uint64, cookie uint32) (record, api.Code) {
	r, has := m.last(key)
	switch {
	case !has:
		return r, api.ErrNone
	case r.n.Gone:
		return r, api.ErrGone
	case r.n.Cookie != cookie:
		return r, api.ErrCookie
	}
	return r, 0
}

func (m *model) del(key uint64, cookie uint32) api.Code {
	if _, code := m.asked(key, cookie); code != 0 {
		return code
	}
	if m.sealed {
		return api.ErrSealed
	}
	return m.write(api.Needle{Key: key, Cookie: cookie, Gone: true})
}

// get tells a blob; where its bytes aren't right, the place, too.
func (m *model) get(key uint64, cookie uint32) (api.Needle, int, api.Code) {
	r, code := m.asked(key, cookie)
	if code != 0 {
		return api.Needle{}, 0, code
	}
	// A position is of what the needle was when it was found.
	size := 32 + (len(r.n.Data)+7)/8*8
	if r.off+size > len(m.file) {
		return api.Needle{}, 0, api.ErrShort
	}
	n, _, code := parse(m.file[r.off : r.off+size])
	if code == 0 && (n.Key != key || n.Cookie != cookie || n.Gone || len(n.Data) != len(r.n.Data)) {
		code = api.ErrForm
	}
	if code != 0 {
		return api.Needle{}, r.off, code
	}
	return n, 0, 0
}

func (m *model) lay(n api.Needle) (int, api.Code) {
	r, has := m.last(n.Key)
	switch {
	case len(n.Data) > 4096:
		return 0, api.ErrLong
	case n.Gone && len(n.Data) > 0:
		return 0, api.ErrArg
	case has && r.n.Cookie != n.Cookie:
		return 0, api.ErrCookie
	case has && r.n.Gone:
		return 0, 0
	case !has || n.Gone:
		return 0, m.write(n)
	}
	got, off, code := m.get(n.Key, n.Cookie)
	if code == 0 && !bytes.Equal(got.Data, n.Data) {
		code = api.ErrThere
	}
	return off, code
}

func (m *model) set(epoch int, sealed bool) api.Code {
	if epoch < 0 || epoch > 1<<31-1 {
		return api.ErrArg
	}
	if epoch < m.epoch {
		return api.ErrStale
	}
	m.epoch, m.sealed = epoch, sealed
	return 0
}

// open reads the file anew.
func (m *model) open() {
	m.names = map[string]bool{}
	m.log = nil
	off := 16
	if m.marked > 0 && m.marked <= len(m.file) {
		m.log, off = slices.Clone(m.point), m.marked
	}
	for {
		n, size, _ := parse(m.file[off:])
		if size == 0 {
			m.file = m.file[:off]
			return
		}
		m.log = append(m.log, record{n, off})
		off += size
	}
}

// told tells an error as the model does.
func told(off int, code api.Code, gen int) string {
	if off > 0 {
		return fmt.Sprintf("at %d of v3.%d: %d", off, gen, code)
	}
	return fmt.Sprint(int(code))
}

// what tells an error in the same words.
func what(e error) string {
	switch e := e.(type) {
	case nil:
		return "0"
	case api.Code:
		return fmt.Sprint(int(e))
	case *api.At:
		return fmt.Sprintf("at %d of %s: %s", e.Off, e.File, what(e.Err))
	}
	return fmt.Sprint("another error: ", e)
}

// twins are a volume on a disk, and its model.
type twins struct {
	t *testing.T
	d *disk.Disk
	v *vol.Vol
	m *model
}

// wanted tells a needle of a script: mostly one that may be, and often the same.
func wanted(call []byte) api.Needle {
	n := blob(uint64(call[1]%12), []int{0, 1, 5, 8, 9, 30}[call[2]%6])
	switch {
	case call[3] < 20:
		n.Cookie++
	case call[3] < 40:
		n = dead(n.Key)
	case call[3] < 43:
		n.Gone = true
	case call[3] < 46:
		n.Data = make([]byte, 4097)
	case call[3] < 60:
		n.Data = append(n.Data, 'x')
	}
	return n
}

const callSize = 4 // bytes of a call

// do does a call, and tells what was told, and what should have been.
func (w *twins) do(call []byte) (got, want string) {
	n, x, m := wanted(call), int(call[2])-2, w.m
	gen := m.gen
	switch call[0] % 24 {
	case 0, 1, 2, 3, 4:
		return what(w.v.Put(n)), told(0, m.put(n), gen)
	case 5, 6:
		return what(w.v.Del(n.Key, n.Cookie)), told(0, m.del(n.Key, n.Cookie), gen)
	case 7, 8:
		off, code := m.lay(n)
		return what(w.v.Lay(n)), told(off, code, gen)
	case 9, 10:
		has, off, code := m.get(n.Key, n.Cookie)
		tells, e := w.v.Get(n.Key, n.Cookie)
		return fmt.Sprintf("%s %v", what(e), needle.Same(has, tells)), told(off, code, gen) + " true"
	case 11:
		b, e := w.v.Raw(api.Pos{Off: 3 * x, Len: int(call[1])})
		return fmt.Sprintf("%s %q", what(e), b), m.raw(3*x, int(call[1]))
	case 12:
		from := min(int(call[1]%14), 20)
		l := slices.DeleteFunc(places(m.newest()), func(p api.Pos) bool { return p.Key < uint64(from) })
		return fmt.Sprint(w.v.Keys(uint64(from), x%9)), fmt.Sprint(l[:min(max(x%9, 0), len(l))])
	case 13, 14:
		epoch, sealed := m.epoch+int(call[1]%8)-2, call[2]%2 == 0
		return what(w.v.Set(epoch, sealed)), told(0, m.set(epoch, sealed), gen)
	case 15, 16:
		return w.commit(int(call[1]))
	case 17:
		off, code := 16+int(call[1])*int(call[2])%len(m.file), api.ErrArg
		if off < len(m.file) {
			m.file[off] ^= call[3]
			code = 0
		}
		return what(w.d.Spoil(fmt.Sprint("v3.", gen), off, call[3])), told(0, code, gen)
	case 18:
		return w.mark()
	case 19:
		name := fmt.Sprintf("%c3.%d", "vc"[call[1]%2], gen+1+int(call[2])%9)
		if !m.names[name] {
			laid(w.t, w.d, name, "junk")
			m.names[name] = true
		}
		return "", ""
	case 20:
		must(w.t, w.d.Crash(disk.Picks{}))
	}
	if call[0]%24 > 19 {
		v, e := vol.Open(w.d, 3, m.most)
		must(w.t, e)
		w.v = v
		m.open()
	}
	return "", ""
}

func (m *model) raw(off, size int) string {
	n := 32 + (size+7)/8*8
	switch {
	case off < 0:
		return fmt.Sprintf("1 %q", "")
	case off+n > len(m.file):
		return fmt.Sprintf("3 %q", "")
	}
	return fmt.Sprintf("0 %q", m.file[off:off+n])
}

// commit lays the newest needles' bytes in a file, as they are, spoilt or not.
func (w *twins) commit(how int) (got, want string) {
	m := w.m
	name := fmt.Sprint("v3.", m.gen+1)
	if m.names[name] {
		must(w.t, w.d.Remove(name))
		delete(m.names, name)
	}
	if how%5 == 0 {
		return what(w.v.Commit(nil, 16)), "6"
	}
	file := []byte(super(3, m.gen+1))
	log := m.newest()
	for i, r := range log {
		// A position may be longer than what stands there, at the file's end.
		raw := m.file[r.off:min(r.off+len(text(r.n)), len(m.file))]
		log[i].off = len(file)
		file = slices.Concat(file, raw)
	}
	laid(w.t, w.d, name, string(file))
	m.names[name] = true
	if how%5 == 1 {
		return what(w.v.Commit(nil, len(file)+1)), "1"
	}
	got = what(w.v.Commit(places(log), len(file)))
	delete(m.names, name)
	// The checkpoint of the next generation may be there already, as junk is.
	m.gen, m.file, m.log, m.marked = m.gen+1, file, log, 0
	return got, "0"
}

// mark writes a checkpoint.
func (w *twins) mark() (got, want string) {
	m := w.m
	name := fmt.Sprint("c3.", m.gen)
	if slices.Contains(w.d.Names(), name) {
		must(w.t, w.d.Remove(name))
	}
	delete(m.names, name)
	c := w.v.Snapshot()
	laid(w.t, w.d, name, point(3, c.Gen, c.Upto, c.L...))
	m.marked, m.point = len(m.file), m.newest()
	return fmt.Sprint(c.Volume, c.Gen, c.Upto, c.L), fmt.Sprint(3, m.gen, len(m.file), places(m.point))
}

// look holds all that there is to be seen against the model.
func (w *twins) look(why string) {
	w.t.Helper()
	m := w.m
	l := m.newest()
	want := vol.Info{Number: 3, Gen: m.gen, Epoch: m.epoch, Size: len(m.file), Sealed: m.sealed}
	for _, r := range l {
		if r.n.Gone {
			want.Gone++
		} else {
			want.Live++
		}
	}
	if got := w.v.Info(); got != want {
		w.t.Fatalf("%s: Info: %+v; want %+v", why, got, want)
	}
	if got := w.v.Snapshot(); !slices.Equal(got.L, places(l)) || got.Upto != len(m.file) || got.Gen != m.gen {
		w.t.Fatalf("%s: Snapshot: %+v; want %+v", why, got, places(l))
	}
	is := files(w.d)
	data, point := fmt.Sprint("v3.", m.gen), fmt.Sprint("c3.", m.gen)
	if is["m3"] != manifest(3, m.gen, m.epoch, m.sealed) || is[data] != string(m.file) {
		w.t.Fatalf("%s: files %q; want %q", why, is, m.file)
	}
	for name := range is {
		if name != "m3" && name != data && name != point && !m.names[name] {
			w.t.Fatalf("%s: %s is there", why, name)
		}
	}
	if len(is) < 2+len(m.names) {
		w.t.Fatalf("%s: files %q; want %v, too", why, is, m.names)
	}
}

// alike holds a volume against the model, call by call.
func alike(t *testing.T, most int, script []byte) {
	t.Helper()
	d, v := begun(t, most)
	w := twins{t, d, v, newModel(most)}
	var calls []string
	for ; len(script) >= callSize; script = script[callSize:] {
		got, want := w.do(script[:callSize])
		calls = append(calls, fmt.Sprintf("%d %v: %s", script[0]%24, wanted(script), got))
		why := "P9.1 to P9.3: behind " + strings.Join(calls[max(0, len(calls)-12):], "\n")
		if got != want {
			t.Fatalf("%s: want %s", why, want)
		}
		w.look(why)
		w.m.names = clean(w.m.names, w.m.gen)
	}
}

// clean leaves out what is a file of the generation now.
func clean(names map[string]bool, gen int) map[string]bool {
	delete(names, fmt.Sprint("c3.", gen))
	return names
}

func TestAsTheModel(t *testing.T) {
	for i := range 150 {
		alike(t, 200+20*i, sample.Bytes(1600+i))
	}
}

func FuzzAsTheModel(f *testing.F) {
	f.Add(700, sample.Bytes(400))
	f.Add(plenty, sample.Bytes(300))
	f.Fuzz(func(t *testing.T, most int, script []byte) {
		alike(t, min(max(most, 16), plenty), script)
	})
}
