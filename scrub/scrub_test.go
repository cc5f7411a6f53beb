package scrub_test

import (
	"encoding/binary"
	"errors"
	"fmt"
	"hash/crc32"
	"maps"
	"math"
	"slices"
	"strings"
	"testing"

	"corncrib/api"
	"corncrib/compact"
	"corncrib/disk"
	"corncrib/heads"
	"corncrib/needle"
	"corncrib/sample"
	"corncrib/scrub"
	"corncrib/vol"
)

const (
	plenty   = 1 << 20 // a capacity of no weight
	greatest = 1<<64 - 1
)

var castagnoli = crc32.MakeTable(crc32.Castagnoli)

// is asks that e is just this code, found by errors.Is; 0 is no error.
func is(t *testing.T, why string, e error, code api.Code) {
	t.Helper()
	if !sample.Is(e, code) {
		t.Errorf("%s: %v; want code %d", why, e, code)
	}
}

// isAt asks that e is just this code, wrapped in an api.At of this place; 0 is no
// error.
func isAt(t *testing.T, why string, e error, code api.Code, file string, off int) {
	t.Helper()
	is(t, why, e, code)
	var at *api.At
	if code != 0 && (!errors.As(e, &at) || at.File != file || at.Off != off) {
		t.Errorf("%s: %v; want it at %s, %d", why, e, file, off)
	}
}

// must asks that nothing is wrong with what a test begins with.
func must(t *testing.T, errs ...error) {
	t.Helper()
	for i, e := range errs {
		if e != nil {
			t.Fatalf("call %d: %v", i, e)
		}
	}
}

// sure tells what was told without an error.
func sure[T any](x T, e error) T {
	if e != nil {
		panic(e)
	}
	return x
}

// blob tells a needle whose data hangs on its size alone.
func blob(key uint64, size int) api.Needle {
	return api.Needle{Key: key, Cookie: uint32(key) + 100, Data: sample.Bytes(size)}
}

// dead tells that the needle that blob tells is gone.
func dead(key uint64) api.Needle {
	return api.Needle{Key: key, Cookie: uint32(key) + 100, Gone: true}
}

// text tells the bytes of needles one behind the other.
func text(l ...api.Needle) string {
	var b []byte
	for _, n := range l {
		b = append(b, sure(needle.Put(n))...)
	}
	return string(b)
}

// super tells the bytes ahead of a volume's file.
func super(volume, gen int) string {
	return string(sure(heads.PutSuper(heads.Super{Volume: volume, Gen: gen})))
}

// file tells the name of a volume's data file.
func file(v *vol.Vol) string {
	i := v.Info()
	return fmt.Sprintf("v%d.%d", i.Number, i.Gen)
}

// begun tells a disk, and volume 3 upon it, with needles.
func begun(t *testing.T, l ...api.Needle) (*disk.Disk, *vol.Vol) {
	t.Helper()
	d := sure(disk.New(plenty))
	v := sure(vol.Make(d, 3, plenty, 5))
	for _, n := range l {
		must(t, v.Lay(n))
	}
	return d, v
}

// laid makes a file that lasts; its name may not.
func laid(t *testing.T, d *disk.Disk, name, text string) {
	t.Helper()
	must(t, d.Create(name), d.Append(name, []byte(text)), d.Sync(name))
}

// another lays other bytes in place of a volume's file.
func another(t *testing.T, d *disk.Disk, v *vol.Vol, text string) {
	t.Helper()
	must(t, d.Remove(file(v)))
	laid(t, d, file(v), text)
}

// bytesOf tells what a volume's file has, if the disk isn't down.
func bytesOf(d *disk.Disk, v *vol.Vol) string {
	return string(sure(d.Read(file(v), 0, sure(d.Size(file(v))))))
}

// files tells what a disk that isn't down has.
func files(d *disk.Disk) map[string]string {
	m := map[string]string{}
	for _, name := range d.Names() {
		m[name] = string(sure(d.Read(name, 0, sure(d.Size(name)))))
	}
	return m
}

// all tells all positions of a volume.
func all(v *vol.Vol) []api.Pos { return v.Keys(0, math.MaxInt) }

// parse tells the needle with which bytes begin, or what is wrong: it is reckoned
// otherwise than by the program's layers.
func parse(b string) (api.Pos, api.Code) {
	if len(b) < 32 {
		return api.Pos{}, api.ErrShort
	}
	word := func(at int) uint32 { return binary.LittleEndian.Uint32([]byte(b[at:])) }
	size := int(word(20))
	if b[:4] != "LEEN" || word(4) > 1 || word(28) != 0 || size > 4096 || word(4) == 1 && size > 0 {
		return api.Pos{}, api.ErrForm
	}
	whole := 32 + (size+7)/8*8
	if len(b) < whole {
		return api.Pos{}, api.ErrShort
	}
	if crc32.Checksum([]byte(b[:24]+b[32:32+size]), castagnoli) != word(24) {
		return api.Pos{}, api.ErrSum
	}
	if strings.Trim(b[32+size:whole], "\x00") != "" {
		return api.Pos{}, api.ErrForm
	}
	return api.Pos{Key: uint64(word(12))<<32 | uint64(word(8)), Len: size, Cookie: word(16), Gone: word(4) == 1}, 0
}

// wrong tells what should be wrong with a position of a file of these bytes, as
// the chapter has it: first what a read tells, then what stands there.
func wrong(file string, p api.Pos) api.Code {
	size := 0
	if p.Len >= 0 && p.Len <= 4096 {
		size = 32 + (p.Len+7)/8*8
	}
	switch {
	case p.Off < 0:
		return api.ErrArg
	case p.Off > len(file)-size:
		return api.ErrShort
	}
	n, code := parse(file[p.Off : p.Off+size])
	if n.Off = p.Off; code == 0 && n != p {
		return api.ErrForm
	}
	return code
}

// image is all that there is to be seen of a volume, and of its disk.
type image struct {
	i     vol.Info
	l     []api.Pos
	files map[string]string
	used  int
}

func seen(d *disk.Disk, v *vol.Vol) image {
	return image{v.Info(), all(v), files(d), d.Used()}
}

// still asks that nothing has changed.
func (m image) still(t *testing.T, why string, d *disk.Disk, v *vol.Vol) {
	t.Helper()
	o := seen(d, v)
	if m.i != o.i || !slices.Equal(m.l, o.l) || !maps.Equal(m.files, o.files) || m.used != o.used {
		t.Errorf("%s: something has changed: %+v, %v, %v; was %+v, %v, %v", why, o.i, o.l, d.Names(), m.i, m.l, slices.Sorted(maps.Keys(m.files)))
	}
}

// looks asks what Look tells of a position of a volume whose disk is up.
func looks(t *testing.T, why string, d *disk.Disk, v *vol.Vol, p api.Pos) {
	t.Helper()
	isAt(t, fmt.Sprintf("P12.1: Look %s, %+v", why, p), scrub.Look(v, p), wrong(bytesOf(d, v), p), file(v), p.Off)
}

// kinds are volumes of all kinds, each on a disk of its own.
var kinds = map[string]func(t *testing.T) (*disk.Disk, *vol.Vol){
	"without needles": func(t *testing.T) (*disk.Disk, *vol.Vol) { return begun(t) },
	"of one":          func(t *testing.T) (*disk.Disk, *vol.Vol) { return begun(t, blob(7, 5)) },
	"of the key 0":    func(t *testing.T) (*disk.Disk, *vol.Vol) { return begun(t, blob(0, 5)) },
	"of the last key": func(t *testing.T) (*disk.Disk, *vol.Vol) { return begun(t, blob(greatest, 5)) },
	"of both":         func(t *testing.T) (*disk.Disk, *vol.Vol) { return begun(t, blob(greatest, 5), blob(0, 8)) },
	"of neighbours":   func(t *testing.T) (*disk.Disk, *vol.Vol) { return begun(t, blob(greatest-1, 5), blob(greatest, 8)) },
	"of a last but one": func(t *testing.T) (*disk.Disk, *vol.Vol) {
		return begun(t, blob(greatest-1, 5), blob(greatest-2, 8), blob(1, 1))
	},
	"of a last one that is gone": func(t *testing.T) (*disk.Disk, *vol.Vol) {
		return begun(t, blob(greatest, 5), blob(7, 4), dead(greatest))
	},
	"of blobs": func(t *testing.T) (*disk.Disk, *vol.Vol) {
		return begun(t, blob(9, 4096), blob(7, 5), blob(0, 8), blob(greatest, 0), blob(8, 33))
	},
	"of some": func(t *testing.T) (*disk.Disk, *vol.Vol) {
		return begun(t, blob(9, 40), blob(7, 5), dead(9), blob(1<<32, 8), dead(6), blob(8, 33), dead(1<<33))
	},
	"of gone ones": func(t *testing.T) (*disk.Disk, *vol.Vol) {
		return begun(t, blob(7, 5), dead(7), dead(2), blob(1, 1), dead(1))
	},
	"sealed": func(t *testing.T) (*disk.Disk, *vol.Vol) {
		d, v := begun(t, blob(7, 5), dead(2), blob(1, 1))
		must(t, v.Set(5, true))
		return d, v
	},
	"of a later generation": func(t *testing.T) (*disk.Disk, *vol.Vol) {
		d, v := begun(t, blob(7, 5), blob(2, 1))
		must(t, v.Del(7, 107), compact.Run(d, v), v.Put(blob(8, 8)), compact.Run(d, v), v.Put(blob(5, 9)), v.Del(2, 102))
		return d, v
	},
	"opened again": func(t *testing.T) (*disk.Disk, *vol.Vol) {
		d, v := begun(t, blob(7, 5), blob(2, 1))
		must(t, v.Del(7, 107), d.Crash(disk.Picks{}))
		return d, sure(vol.Open(d, 3, plenty))
	},
	"of the last number": func(t *testing.T) (*disk.Disk, *vol.Vol) {
		d := sure(disk.New(plenty))
		v := sure(vol.Make(d, 65535, plenty, 0))
		must(t, v.Put(blob(7, 5)), v.Put(blob(3, 100)))
		return d, v
	},
}

// each begins anew with a volume of each kind.
func each(t *testing.T, do func(kind string, d *disk.Disk, v *vol.Vol)) {
	for _, kind := range slices.Sorted(maps.Keys(kinds)) {
		d, v := kinds[kind](t)
		do("of a volume "+kind, d, v)
	}
}

func TestLookOfNoVolume(t *testing.T) {
	for _, p := range []api.Pos{{}, {Key: 7, Off: 16, Len: 5, Cookie: 107}, {Off: -1}, {Off: math.MaxInt, Len: math.MinInt}} {
		e := scrub.Look(nil, p)
		is(t, "P12.1: Look of no volume", e, api.ErrNil)
		var at *api.At
		if errors.As(e, &at) {
			t.Errorf("P12.1: Look of no volume: at %s", at.File)
		}
	}
}

// A volume that nobody made has no disk to read from.
func TestAVolumeOfNobody(t *testing.T) {
	isAt(t, "R1: Look of a volume of nobody", scrub.Look(&vol.Vol{}, api.Pos{Off: 16}), api.ErrNil, "v0.0", 16)
	l, e := scrub.All(&vol.Vol{})
	is(t, "R1: All of a volume of nobody", e, 0)
	if len(l) != 0 {
		t.Errorf("R1: All of a volume of nobody: %v", l)
	}
}

func TestLookOfWhat(t *testing.T) {
	each(t, func(kind string, d *disk.Disk, v *vol.Vol) {
		was := seen(d, v)
		must(t, d.Arm(1))
		for _, p := range all(v) {
			if e := scrub.Look(v, p); e != nil {
				t.Errorf("P12.1: Look %s, %+v: %v", kind, p, e)
			}
		}
		if d.Down() {
			t.Fatalf("P12.1: Look %s did a deed", kind)
		}
		was.still(t, "P12.1: Look "+kind, d, v)
	})
}

// A position tells a needle, be it the newest of its key or an elder one, and
// whether the volume has the key or not.
func TestLookOfAnElderNeedle(t *testing.T) {
	d, v := begun(t, blob(7, 5), dead(7))
	elder := api.Pos{Key: 7, Off: 16, Len: 5, Cookie: 107}
	is(t, "P12.1: Look of an elder needle", scrub.Look(v, elder), 0)
	must(t, d.Append("v3.1", []byte(text(blob(9, 9)))))
	is(t, "P12.1: Look of a needle that the volume hasn't", scrub.Look(v, api.Pos{Key: 9, Off: 88, Len: 9, Cookie: 109}), 0)
	must(t, d.Spoil("v3.1", 16, 1))
	isAt(t, "P12.1: Look of an elder needle that is spoilt", scrub.Look(v, elder), api.ErrForm, "v3.1", 16)
}

// Another key, cookie, Gone or length than the needle's at the place.
func TestLookOfAnotherNeedle(t *testing.T) {
	each(t, func(kind string, d *disk.Disk, v *vol.Vol) {
		for _, p := range all(v) {
			name := file(v)
			told := func(what string, p api.Pos) {
				isAt(t, fmt.Sprintf("P12.1: Look %s, %s: %+v", kind, what, p), scrub.Look(v, p), api.ErrForm, name, p.Off)
			}
			for _, bit := range []uint64{1, 1 << 31, 1 << 32, 1 << 63, greatest} {
				q := p
				q.Key ^= bit
				told("another key", q)
			}
			for _, bit := range []uint32{1, 1 << 16, 1 << 31, 1<<32 - 1} {
				q := p
				q.Cookie ^= bit
				told("another cookie", q)
			}
			q := p
			q.Gone = !p.Gone
			told("another Gone", q)
			for q.Len = (p.Len+7)/8*8 - 7; q.Len <= (p.Len+7)/8*8; q.Len++ {
				// Of as many bytes as the needle's own.
				q := q
				q.Gone = p.Gone
				if q.Len != p.Len && q.Len >= 0 {
					told("another length", q)
				}
			}
		}
	})
}

// A length by which more or fewer bytes are read.
func TestLookOfAnotherLength(t *testing.T) {
	for _, x := range []struct {
		size, n int
		behind  string
		code    api.Code
	}{
		{5, 5, "", 0}, {5, 4, "", api.ErrForm}, {5, 8, "", api.ErrForm}, {5, 1, "", api.ErrForm},
		{5, 0, "", api.ErrShort}, {9, 8, "", api.ErrShort}, {4096, 4088, "", api.ErrShort}, {4096, 4095, "", api.ErrForm},
		{5, 9, "", api.ErrShort}, {5, 9, text(blob(8, 1)), api.ErrForm}, {0, 1, "", api.ErrShort}, {0, 8, text(dead(8)), api.ErrForm},
		{5, 40, text(dead(8)), api.ErrForm}, {5, 41, text(dead(8)), api.ErrShort}, {5, 9, "12345678", api.ErrForm}, {5, 9, "1234567", api.ErrShort},
		{5, 4096, text(blob(8, 4064)), api.ErrForm}, {5, -1, "", api.ErrShort}, {5, -5, text(blob(8, 1)), api.ErrShort},
		{5, 4097, text(blob(8, 4096)), api.ErrShort}, {4096, 4097, text(blob(8, 4096)), api.ErrShort},
		{5, math.MinInt, "", api.ErrShort}, {5, math.MaxInt, "", api.ErrShort}, {5, 5 + 1<<32, text(blob(8, 1)), api.ErrShort},
	} {
		d, v := begun(t, blob(7, x.size))
		must(t, d.Append("v3.1", []byte(x.behind)))
		p := api.Pos{Key: 7, Off: 16, Len: x.n, Cookie: 107}
		why := fmt.Sprintf("P12.1: Look of %d bytes of data as of %d, %d bytes behind", x.size, x.n, len(x.behind))
		isAt(t, why, scrub.Look(v, p), x.code, "v3.1", 16)
		looks(t, "of another length", d, v, p)
	}
}

// Each place of a file, and some ahead of it and behind it.
func TestLookOfPlaces(t *testing.T) {
	d, v := begun(t, blob(7, 5), dead(8), blob(9, 0), blob(10, 40))
	size := v.Info().Size
	for _, p := range all(v) {
		at := p.Off
		places := []int{math.MinInt, math.MinInt + 1, -1 << 32, math.MaxInt, math.MaxInt - 40, 1 << 32, 1<<32 + at}
		for off := -50; off < size+50; off++ {
			places = append(places, off)
		}
		for _, off := range places {
			p.Off = off
			looks(t, "at a place", d, v, p)
			if e := scrub.Look(v, p); (e == nil) != (off == at) {
				t.Errorf("P12.1: Look at %d, where %d would be right: %v", off, at, e)
			}
		}
	}
	for off, code := range map[int]api.Code{-1: api.ErrArg, 0: api.ErrForm, 8: api.ErrForm, 15: api.ErrForm, 24: api.ErrForm, size - 32: api.ErrForm, size - 31: api.ErrShort, size: api.ErrShort, size + 1: api.ErrShort} {
		isAt(t, fmt.Sprintf("P12.1: Look at %d", off), scrub.Look(v, api.Pos{Off: off}), code, "v3.1", off)
	}
	// A needle that stands where nobody would look for it is one all the same.
	another(t, d, v, text(blob(7, 5)))
	is(t, "P12.1: Look of a needle in the superblock's place", scrub.Look(v, api.Pos{Key: 7, Len: 5, Cookie: 107}), 0)
	_, empty := begun(t)
	isAt(t, "P12.1: Look of a new volume", scrub.Look(empty, api.Pos{}), api.ErrShort, "v3.1", 0)
	isAt(t, "P12.1: Look of a new volume", scrub.Look(empty, api.Pos{Off: 16}), api.ErrShort, "v3.1", 16)
}

// Each bit of needles of all kinds.
func TestLookOfTurnedBits(t *testing.T) {
	told := map[api.Code]int{}
	for _, n := range []api.Needle{blob(7, 5), blob(8, 0), dead(9), blob(10, 8), blob(greatest, 17)} {
		d, v := begun(t, blob(1, 3), n, blob(2, 3))
		p := all(v)[slices.IndexFunc(all(v), func(p api.Pos) bool { return p.Key == n.Key })]
		for bit := range 8 * len(text(n)) {
			must(t, d.Spoil("v3.1", p.Off+bit/8, 1<<(bit%8)))
			looks(t, fmt.Sprintf("with bit %d turned", bit), d, v, p)
			e := scrub.Look(v, p)
			if e == nil {
				t.Errorf("P12.1: Look of %v with bit %d turned: nothing is wrong", n, bit)
			}
			for code := api.ErrArg; code <= api.ErrWait; code++ {
				if sample.Is(e, code) {
					told[code]++
				}
			}
			for _, q := range all(v) {
				if q != p {
					is(t, "P12.1: Look beside a spoilt needle", scrub.Look(v, q), 0)
				}
			}
			must(t, d.Spoil("v3.1", p.Off+bit/8, 1<<(bit%8)))
		}
		is(t, "P12.1: Look of what was turned back", scrub.Look(v, p), 0)
	}
	if len(told) != 3 || told[api.ErrForm] == 0 || told[api.ErrSum] == 0 || told[api.ErrShort] == 0 {
		t.Errorf("P12.1: Look with bits turned: %v", told)
	}
	for off, code := range map[int]api.Code{0: api.ErrForm, 4: api.ErrForm, 8: api.ErrSum, 16: api.ErrSum, 20: api.ErrSum, 24: api.ErrSum, 27: api.ErrSum, 28: api.ErrForm, 31: api.ErrForm, 32: api.ErrSum, 36: api.ErrSum, 37: api.ErrForm, 39: api.ErrForm} {
		d, v := begun(t, blob(7, 5))
		must(t, d.Spoil("v3.1", 16+off, 2))
		e := scrub.Look(v, all(v)[0])
		isAt(t, fmt.Sprintf("P12.1: Look with byte %d turned", off), e, code, "v3.1", 16)
	}
}

// What has the right sum is told by what it is.
func TestLookOfAnotherNeedleThere(t *testing.T) {
	for what, n := range map[string]api.Needle{
		"another key":    {Key: 8, Cookie: 107, Data: sample.Bytes(5)},
		"another cookie": {Key: 7, Cookie: 108, Data: sample.Bytes(5)},
		"one of no data": {Key: 7, Cookie: 107},
		"a deletion":     dead(7),
		"a shorter one":  blob(7, 4),
		"a longer one":   blob(7, 8),
	} {
		d, v := begun(t, blob(7, 5))
		another(t, d, v, super(3, 1)+text(n, blob(9, 9)))
		isAt(t, "P12.1: Look with "+what+" in its place", scrub.Look(v, all(v)[0]), api.ErrForm, "v3.1", 16)
	}
	d, v := begun(t, blob(7, 5))
	another(t, d, v, super(3, 1)+text(blob(7, 9)))
	isAt(t, "P12.1: Look with one in its place that has more bytes", scrub.Look(v, all(v)[0]), api.ErrShort, "v3.1", 16)
	d, v = begun(t, dead(7))
	another(t, d, v, super(3, 1)+text(blob(7, 0)))
	isAt(t, "P12.1: Look with a blob in a deletion's place", scrub.Look(v, all(v)[0]), api.ErrForm, "v3.1", 16)
	// What stands ahead of the file isn't a needle's.
	another(t, d, v, strings.Repeat("x", 16)+text(dead(7)))
	is(t, "P12.1: Look without a superblock", scrub.Look(v, all(v)[0]), 0)
}

func TestLookOfACutFile(t *testing.T) {
	_, v := begun(t, blob(7, 5), dead(8), blob(9, 0), blob(10, 12))
	for n := range v.Info().Size + 1 {
		d, v := begun(t, blob(7, 5), dead(8), blob(9, 0), blob(10, 12))
		must(t, d.Cut("v3.1", n))
		for _, p := range all(v) {
			code := api.Code(0)
			if p.Off+len(text(api.Needle{Data: make([]byte, p.Len)})) > n {
				code = api.ErrShort
			}
			isAt(t, fmt.Sprintf("P12.1: Look of a file that is cut to %d bytes, %+v", n, p), scrub.Look(v, p), code, "v3.1", p.Off)
		}
	}
}

// What the disk tells is wrapped, too, and comes ahead of what stands there.
func TestLookOfADiskThatFails(t *testing.T) {
	d, v := begun(t, blob(7, 5), dead(8))
	must(t, d.Spoil("v3.1", 20, 1), d.SyncNames(), d.Arm(0))
	for _, p := range append(all(v), api.Pos{Off: -1}, api.Pos{Off: math.MaxInt, Len: math.MaxInt}, api.Pos{Off: math.MinInt}) {
		isAt(t, "P12.1: Look of a disk that is down", scrub.Look(v, p), api.ErrDown, "v3.1", p.Off)
	}
	is(t, "P12.1: Look of no volume", scrub.Look(nil, all(v)[0]), api.ErrNil)
	must(t, d.Crash(disk.Picks{}))
	isAt(t, "P12.1: Look behind the crash", scrub.Look(v, all(v)[0]), api.ErrForm, "v3.1", 16)
	is(t, "P12.1: Look behind the crash", scrub.Look(v, all(v)[1]), 0)
	must(t, d.Rename("v3.1", "v3.2"))
	for _, p := range append(all(v), api.Pos{Off: -1}, api.Pos{Off: math.MaxInt}) {
		isAt(t, "P12.1: Look without the data file", scrub.Look(v, p), api.ErrNone, "v3.1", p.Off)
	}
}

// The place is told in the file that the volume has now, whatever it had.
func TestLookOfALaterGeneration(t *testing.T) {
	d, v := begun(t, blob(7, 5), blob(8, 9), dead(7))
	elder := all(v)
	for gen := 1; gen < 12; gen++ {
		name := fmt.Sprint("v3.", gen)
		for _, p := range all(v) {
			must(t, d.Spoil(name, p.Off+9, 64))
			isAt(t, fmt.Sprintf("P12.1: Look of generation %d", gen), scrub.Look(v, p), api.ErrSum, name, p.Off)
			must(t, d.Spoil(name, p.Off+9, 64))
			is(t, fmt.Sprintf("P12.1: Look of generation %d", gen), scrub.Look(v, p), 0)
		}
		for _, p := range elder {
			looks(t, "of an elder generation's position", d, v, p)
		}
		must(t, compact.Run(d, v))
	}
	w := sure(vol.Make(d, 65535, plenty, 0))
	must(t, w.Put(blob(7, 5)))
	isAt(t, "P12.1: Look of another volume's position", scrub.Look(w, elder[1]), api.ErrShort, "v65535.1", elder[1].Off)
	isAt(t, "P12.1: Look of another volume's place", scrub.Look(w, api.Pos{Key: 8, Off: 16, Len: 5, Cookie: 107}), api.ErrForm, "v65535.1", 16)
	is(t, "P12.1: Look of a place that two volumes have", scrub.Look(w, api.Pos{Key: 7, Off: 16, Len: 5, Cookie: 107}), 0)
}

// What Look tells is the caller's, and no other Look's.
func TestLookTellsTheCallers(t *testing.T) {
	d, v := begun(t, blob(7, 5))
	must(t, d.Spoil("v3.1", 16, 1))
	p := all(v)[0]
	for range 3 {
		e := scrub.Look(v, p)
		isAt(t, "P12.1: Look again", e, api.ErrForm, "v3.1", 16)
		var at *api.At
		if errors.As(e, &at) {
			*at = api.At{File: "x", Off: 1, Err: api.ErrBusy}
		}
	}
}
