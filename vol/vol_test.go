package vol_test

import (
	"bytes"
	"errors"
	"fmt"
	"maps"
	"math"
	"slices"
	"testing"

	"corncrib/api"
	"corncrib/check"
	"corncrib/disk"
	"corncrib/heads"
	"corncrib/needle"
	"corncrib/sample"
	"corncrib/vol"
)

const plenty = 1 << 24 // a capacity, and a most, that are of no weight

// is asks that e is just this code, as it came from below; 0 is no error.
func is(t *testing.T, why string, e error, code api.Code) {
	t.Helper()
	if code == 0 && e != nil || code != 0 && e != error(code) {
		t.Errorf("%s: %v; want code %d", why, e, code)
	}
}

// at asks that e is found as an error of this code at a place of a file.
func at(t *testing.T, why string, e error, file string, off int, code api.Code) {
	t.Helper()
	var a *api.At
	if !errors.As(e, &a) || *a != (api.At{File: file, Off: off, Err: code}) || !sample.Is(e, code) {
		t.Errorf("%s: %v; want code %d at %d of %s", why, e, code, off, file)
	}
}

// must asks that nothing is wrong with what a test begins with.
func must(t *testing.T, errs ...error) {
	t.Helper()
	for i, e := range errs {
		if e != nil {
			t.Fatalf("call %d: %v", i, e)
		}
	}
}

// sure tells what was told without an error.
func sure[T any](x T, e error) T {
	if e != nil {
		panic(e)
	}
	return x
}

// begun tells a disk, and volume 3 upon it, of the epoch 5.
func begun(t *testing.T, most int) (*disk.Disk, *vol.Vol) {
	t.Helper()
	d := sure(disk.New(plenty))
	v, e := vol.Make(d, 3, most, 5)
	if v == nil || e != nil {
		t.Fatalf("P9.1: Make: %v, %v", v, e)
	}
	return d, v
}

// blob tells a needle whose data hangs on its key.
func blob(key uint64, size int) api.Needle {
	return api.Needle{Key: key, Cookie: uint32(key) + 100, Data: sample.Bytes(size)}
}

// dead tells that the needle that blob tells is gone.
func dead(key uint64) api.Needle {
	return api.Needle{Key: key, Cookie: uint32(key) + 100, Gone: true}
}

// text tells the bytes of needles, one behind the other.
func text(l ...api.Needle) []byte {
	var b []byte
	for _, n := range l {
		b = append(b, sure(needle.Put(n))...)
	}
	return b
}

// files tells what a disk that isn't down has.
func files(d *disk.Disk) map[string]string {
	m := map[string]string{}
	for _, name := range d.Names() {
		m[name] = string(sure(d.Read(name, 0, sure(d.Size(name)))))
	}
	return m
}

// laid makes files on a disk that last, as the pairs of name and bytes tell.
func laid(t *testing.T, d *disk.Disk, pairs ...string) {
	t.Helper()
	for i := 0; i < len(pairs); i += 2 {
		must(t, d.Create(pairs[i]), d.Append(pairs[i], []byte(pairs[i+1])), d.Sync(pairs[i]))
	}
	must(t, d.SyncNames())
}

// hasFiles asks that a disk has just these files.
func hasFiles(t *testing.T, why string, d *disk.Disk, pairs ...string) {
	t.Helper()
	want := map[string]string{}
	for i := 0; i < len(pairs); i += 2 {
		want[pairs[i]] = pairs[i+1]
	}
	if got := files(d); !maps.Equal(got, want) {
		t.Errorf("%s: files %q; want %q", why, got, want)
	}
}

// super and manifest tell the bytes of what their names say.
func super(volume, gen int) string {
	return string(sure(heads.PutSuper(heads.Super{Volume: volume, Gen: gen})))
}

func manifest(volume, gen, epoch int, sealed bool) string {
	return string(sure(heads.PutManifest(heads.Manifest{Volume: volume, Gen: gen, Epoch: epoch, Sealed: sealed})))
}

// positions tells where the needles stand that the volume's file has from 16 on.
func positions(l ...api.Needle) []api.Pos {
	m := map[uint64]api.Pos{}
	off := 16
	for _, n := range l {
		m[n.Key] = api.Pos{Key: n.Key, Off: off, Len: len(n.Data), Cookie: n.Cookie, Gone: n.Gone}
		off += 32 + (len(n.Data)+7)/8*8
	}
	var all []api.Pos
	for _, key := range slices.Sorted(maps.Keys(m)) {
		all = append(all, m[key])
	}
	return all
}

// state asks all that a volume tells of itself: want has all but Size, Live and
// Gone, which are of the needles that were written one behind the other.
func state(t *testing.T, why string, v *vol.Vol, want vol.Info, l ...api.Needle) {
	t.Helper()
	all := positions(l...)
	want.Size = 16 + len(text(l...))
	for _, p := range all {
		if p.Gone {
			want.Gone++
		} else {
			want.Live++
		}
	}
	if got := v.Info(); got != want {
		t.Errorf("%s: Info: %+v; want %+v", why, got, want)
	}
	c := v.Snapshot()
	if c.Volume != want.Number || c.Gen != want.Gen || c.Upto != want.Size || !slices.Equal(c.L, all) {
		t.Errorf("%s: Snapshot: %+v; want %+v and %+v", why, c, want, all)
	}
	if got := v.Keys(0, 5000); !slices.Equal(got, all) {
		t.Errorf("%s: Keys: %+v; want %+v", why, got, all)
	}
}

// new3 is what Info tells of a volume that begun tells, but for its needles.
var new3 = vol.Info{Number: 3, Gen: 1, Epoch: 5}

// gets asks that these needles are got.
func gets(t *testing.T, why string, v *vol.Vol, l ...api.Needle) {
	t.Helper()
	for _, n := range l {
		got, e := v.Get(n.Key, n.Cookie)
		if e != nil || !needle.Same(got, n) {
			t.Errorf("%s: Get(%d): %v, %v; want %v", why, n.Key, got, e, n)
		}
	}
}

// refuses asks that Get tells just this code, and nothing beside it.
func refuses(t *testing.T, why string, v *vol.Vol, key uint64, cookie uint32, code api.Code) {
	t.Helper()
	n, e := v.Get(key, cookie)
	if !needle.Same(n, api.Needle{}) {
		t.Errorf("%s: Get(%d, %d) tells %v beside %v", why, key, cookie, n, e)
	}
	is(t, fmt.Sprintf("%s: Get(%d, %d)", why, key, cookie), e, code)
}

func TestPut(t *testing.T) {
	d, v := begun(t, plenty)
	var l []api.Needle
	for i, n := range []api.Needle{
		blob(7, 5), blob(2, 0), blob(math.MaxUint64, 4096), blob(0, 1), blob(1<<63, 8), {Key: 9, Cookie: math.MaxUint32, Data: []byte{}}, {Key: 10},
	} {
		is(t, "P9.2: Put", v.Put(n), 0)
		l = append(l, n)
		state(t, fmt.Sprint("P9.2: behind put ", i), v, new3, l...)
		gets(t, "P9.3: behind puts", v, l...)
		hasFiles(t, "P9.2: behind puts", d, "m3", manifest(3, 1, 5, false), "v3.1", super(3, 1)+string(text(l...)))
	}
	// All that was told as done lasts.
	must(t, d.Crash(disk.Picks{}))
	hasFiles(t, "P9.2: behind a crash", d, "m3", manifest(3, 1, 5, false), "v3.1", super(3, 1)+string(text(l...)))
}

func TestPutRefuses(t *testing.T) {
	d, v := begun(t, plenty)
	must(t, v.Put(blob(7, 5)), v.Put(blob(8, 5)), v.Del(8, 108))
	l := []api.Needle{blob(7, 5), blob(8, 5), dead(8)}
	before := files(d)
	check := func(sealed bool, of ...api.Code) {
		t.Helper()
		want := new3
		want.Sealed = sealed
		for i, n := range []api.Needle{
			dead(9), dead(7), {Key: 9, Gone: true, Data: []byte("x")}, {Key: 9, Gone: true, Data: make([]byte, 4097)},
			blob(9, 4097), blob(7, 4097), blob(7, 5), {Key: 7, Data: []byte("other")}, blob(8, 5), {Key: 8}, blob(9, 5),
		}[:len(of)] {
			is(t, fmt.Sprintf("P9.2: Put %d, sealed %v", i, sealed), v.Put(n), of[i])
			state(t, "P9.2: behind a put that was refused", v, want, l...)
		}
		if got := files(d); !maps.Equal(got, before) {
			t.Errorf("P9.2: behind puts that were refused: %q; want %q", got, before)
		}
	}
	check(false, api.ErrArg, api.ErrArg, api.ErrArg, api.ErrArg, api.ErrLong, api.ErrLong, api.ErrThere, api.ErrThere, api.ErrGone, api.ErrGone)
	must(t, v.Set(5, true))
	before = files(d)
	sealed := api.ErrSealed
	check(true, api.ErrArg, api.ErrArg, api.ErrArg, api.ErrArg, api.ErrLong, api.ErrLong, sealed, sealed, sealed, sealed, sealed)
	must(t, v.Set(5, false))
	is(t, "P9.2: Put, opened again", v.Put(blob(9, 5)), 0)
	state(t, "P9.2: Put, opened again", v, new3, append(l, blob(9, 5))...)
}

func TestDel(t *testing.T) {
	d, v := begun(t, plenty)
	must(t, v.Put(blob(7, 5)), v.Put(blob(8, 0)))
	l := []api.Needle{blob(7, 5), blob(8, 0)}
	for _, sealed := range []bool{false, true} {
		must(t, v.Set(5, sealed))
		is(t, "P9.2: Del of no key", v.Del(9, 109), api.ErrNone)
		is(t, "P9.2: Del with another cookie", v.Del(7, 108), api.ErrCookie)
	}
	is(t, "P9.2: Del, sealed", v.Del(7, 107), api.ErrSealed)
	must(t, v.Set(5, false))
	state(t, "P9.2: behind deletions that were refused", v, new3, l...)
	is(t, "P9.2: Del", v.Del(7, 107), 0)
	l = append(l, dead(7))
	state(t, "P9.2: behind a deletion", v, new3, l...)
	hasFiles(t, "P9.2: behind a deletion", d, "m3", manifest(3, 1, 5, false), "v3.1", super(3, 1)+string(text(l...)))
	for _, sealed := range []bool{false, true} {
		must(t, v.Set(5, sealed))
		is(t, "P9.2: Del of what is gone", v.Del(7, 107), api.ErrGone)
		is(t, "P9.2: Del of what is gone, with another cookie", v.Del(7, 1), api.ErrGone)
	}
	want := new3
	want.Sealed = true
	state(t, "P9.2: behind deletions of what is gone", v, want, l...)
	must(t, d.Crash(disk.Picks{}))
	hasFiles(t, "P9.2: a deletion, and a crash", d, "m3", manifest(3, 1, 5, true), "v3.1", super(3, 1)+string(text(l...)))
}

func TestFullFile(t *testing.T) {
	for _, size := range []int{0, 1, 5, 8, 9, 4096} {
		n := blob(7, size)
		most := 16 + len(text(n))
		_, v := begun(t, most)
		is(t, "P9.2: Put with just most bytes behind it", v.Put(n), 0)
		state(t, "P9.2: Put with just most bytes behind it", v, new3, n)
		for _, most := range []int{most - 1, 16} {
			_, v := begun(t, most)
			is(t, "P9.2: Put with more than most bytes", v.Put(n), api.ErrFull)
			is(t, "P9.3: Lay with more than most bytes", v.Lay(n), api.ErrFull)
			state(t, "P9.2: Put with more than most bytes", v, new3)
		}
		for more := range 66 {
			_, v := begun(t, most+more)
			must(t, v.Put(n))
			first, second := api.Code(0), api.Code(0)
			if more < 32 {
				first = api.ErrFull
			}
			if more < 64 {
				second = api.ErrFull
			}
			is(t, fmt.Sprint("P9.2: Del with room for ", more), v.Del(7, 107), first)
			is(t, fmt.Sprint("P9.3: Lay of a gone one with room for ", more), v.Lay(dead(9)), second)
			is(t, "P9.2: Put of what is there, or gone, of a full one", v.Put(n), map[bool]api.Code{true: api.ErrThere, false: api.ErrGone}[more < 32])
			is(t, "P9.2: Del of no key of a full one", v.Del(1, 2), api.ErrNone)
			must(t, v.Set(5, true))
			is(t, "P9.2: Put, sealed and full", v.Put(blob(8, 4000)), api.ErrSealed)
		}
	}
}

// many tells a volume of so many keys, the first of them gone.
func many(t *testing.T, keys int) *vol.Vol {
	t.Helper()
	_, v := begun(t, plenty)
	for i := range keys {
		must(t, v.Put(blob(uint64(2*i), 0)))
		if i == 0 {
			must(t, v.Del(0, 100))
		}
	}
	return v
}

func TestFullIndex(t *testing.T) {
	v := many(t, 4095)
	is(t, "P9.2: Del with 4095 keys", v.Del(2, 102), 0)
	is(t, "P9.3: Lay of a gone one with 4095 keys", v.Lay(dead(4)), 0)
	is(t, "P9.2: Put of the 4096th key", v.Put(blob(1, 3)), 0)
	before := v.Snapshot()
	if len(before.L) != 4096 || v.Info().Gone != 3 || v.Info().Live != 4093 {
		t.Errorf("P9.3: Info of 4096 keys: %+v", v.Info())
	}
	is(t, "P9.2: Put of the 4097th key", v.Put(blob(3, 3)), api.ErrFull)
	is(t, "P9.3: Lay of the 4097th key", v.Lay(blob(3, 3)), api.ErrFull)
	is(t, "P9.3: Lay of the 4097th key, gone", v.Lay(dead(3)), api.ErrFull)
	is(t, "P9.2: Put of a key that is there, with 4096", v.Put(blob(6, 0)), api.ErrThere)
	is(t, "P9.2: Put of a key that is gone, with 4096", v.Put(blob(4, 0)), api.ErrGone)
	is(t, "P9.2: Del with 4096 keys", v.Del(6, 106), api.ErrFull)
	is(t, "P9.3: Lay of a gone one with 4096 keys", v.Lay(dead(6)), api.ErrFull)
	is(t, "P9.2: Del of no key, with 4096", v.Del(3, 103), api.ErrNone)
	is(t, "P9.2: Del of another cookie, with 4096", v.Del(6, 1), api.ErrCookie)
	is(t, "P9.3: Lay of what is there, with 4096", v.Lay(blob(6, 0)), 0)
	is(t, "P9.3: Lay of what is gone, with 4096", v.Lay(dead(4)), 0)
	must(t, v.Set(5, true))
	is(t, "P9.2: Put of the 4097th key, sealed", v.Put(blob(3, 3)), api.ErrSealed)
	is(t, "P9.2: Del with 4096 keys, sealed", v.Del(6, 106), api.ErrSealed)
	if got := v.Snapshot(); got.Upto != before.Upto || !slices.Equal(got.L, before.L) {
		t.Errorf("P9.2: behind what was refused: %d, %d; want %d, %d", got.Upto, len(got.L), before.Upto, len(before.L))
	}
}

// A disk's error comes as it is, and behind the append the index has the needle.
func TestWritesOfADiskThatEnds(t *testing.T) {
	old := blob(7, 5)
	for why, x := range map[string]struct {
		do func(v *vol.Vol) error
		n  api.Needle
	}{
		"Put":      {func(v *vol.Vol) error { return v.Put(blob(8, 9)) }, blob(8, 9)},
		"Del":      {func(v *vol.Vol) error { return v.Del(7, 107) }, dead(7)},
		"Lay":      {func(v *vol.Vol) error { return v.Lay(blob(8, 9)) }, blob(8, 9)},
		"Lay gone": {func(v *vol.Vol) error { return v.Lay(dead(7)) }, dead(7)},
	} {
		for deeds := range 4 {
			d, v := begun(t, plenty)
			must(t, v.Put(old), d.Arm(deeds))
			code := api.Code(0)
			if deeds < 2 {
				code = api.ErrDown
			}
			is(t, fmt.Sprintf("P9.2: %s with %d deeds", why, deeds), x.do(v), code)
			if deeds == 0 {
				state(t, "P9.2: "+why+" without the append", v, new3, old)
			} else {
				state(t, "P9.2: "+why+" without the sync", v, new3, old, x.n)
			}
			if d.Down() != (deeds < 3) {
				t.Errorf("P9.2: %s is other than two deeds", why)
			}
		}
		// No room on the disk.
		d, v := begun(t, plenty)
		must(t, v.Put(old))
		fill(t, d, plenty-31)
		is(t, "P9.2: "+why+" on a full disk", x.do(v), api.ErrFull)
		state(t, "P9.2: "+why+" on a full disk", v, new3, old)
		// No file any more.
		d, v = begun(t, plenty)
		must(t, v.Put(old), d.Remove("v3.1"))
		is(t, "P9.2: "+why+" without the file", x.do(v), api.ErrNone)
		state(t, "P9.2: "+why+" without the file", v, new3, old)
	}
}

// fill makes the disk's files have so many bytes together.
func fill(t *testing.T, d *disk.Disk, upto int) {
	t.Helper()
	must(t, d.Create("x"), d.Append("x", make([]byte, upto-d.Used())))
}

// What was appended stands in the file, though its sync was told with an error.
func TestWritesBehindASyncThatFailed(t *testing.T) {
	d, v := begun(t, plenty)
	must(t, d.Arm(1))
	is(t, "P9.2: Put without the sync", v.Put(blob(7, 5)), api.ErrDown)
	is(t, "P9.2: Put of a key whose sync wasn't done", v.Put(blob(7, 5)), api.ErrThere)
	is(t, "P9.2: Del of a key whose sync wasn't done", v.Del(7, 107), api.ErrDown)
	must(t, d.Crash(disk.Picks{Files: []disk.Pick{{Keep: 40}}}))
	gets(t, "P9.3: what stayed", v, blob(7, 5))
	is(t, "P9.2: Put behind it", v.Put(blob(8, 5)), 0)
	state(t, "P9.2: Put behind it", v, new3, blob(7, 5), blob(8, 5))
	gets(t, "P9.3: what stands behind it", v, blob(7, 5), blob(8, 5))
}

func TestGet(t *testing.T) {
	_, v := begun(t, plenty)
	refuses(t, "P9.3: of a new volume", v, 0, 0, api.ErrNone)
	must(t, v.Put(blob(7, 5)), v.Put(blob(8, 4096)), v.Put(blob(9, 0)), v.Del(9, 109))
	for _, sealed := range []bool{false, true} {
		must(t, v.Set(5, sealed))
		gets(t, "P9.3", v, blob(7, 5), blob(8, 4096))
		refuses(t, "P9.3: of no key", v, 6, 107, api.ErrNone)
		refuses(t, "P9.3: of what is gone", v, 9, 109, api.ErrGone)
		refuses(t, "P9.3: of what is gone, with another cookie", v, 9, 0, api.ErrGone)
		refuses(t, "P9.3: with another cookie", v, 7, 108, api.ErrCookie)
	}
}

func TestGetOfADiskThatEnds(t *testing.T) {
	d, v := begun(t, plenty)
	must(t, v.Put(blob(7, 5)), v.Put(blob(8, 5)), v.Del(8, 108), d.Arm(0))
	refuses(t, "P9.3: of a disk that is down", v, 7, 107, api.ErrDown)
	refuses(t, "P9.3: of no key of a disk that is down", v, 6, 107, api.ErrNone)
	refuses(t, "P9.3: of what is gone of a disk that is down", v, 8, 108, api.ErrGone)
	refuses(t, "P9.3: of another cookie of a disk that is down", v, 7, 1, api.ErrCookie)
	must(t, d.Crash(disk.Picks{}))
	gets(t, "P9.3: behind the crash", v, blob(7, 5))
	must(t, d.Cut("v3.1", 55))
	refuses(t, "P9.3: of what is cut off", v, 7, 107, api.ErrShort)
	must(t, d.Remove("v3.1"))
	refuses(t, "P9.3: without the file", v, 7, 107, api.ErrNone)
}

// spoiltAt asks that a get, and a lay of that blob, tell an error at a place.
func spoiltAt(t *testing.T, why string, v *vol.Vol, n api.Needle, off int, code api.Code) {
	t.Helper()
	got, e := v.Get(n.Key, n.Cookie)
	if !needle.Same(got, api.Needle{}) {
		t.Errorf("P9.3: Get of %s tells %v", why, got)
	}
	at(t, "P9.3: Get of "+why, e, "v3.1", off, code)
	before := v.Info()
	at(t, "P9.3: Lay of "+why, v.Lay(n), "v3.1", off, code)
	if v.Info() != before {
		t.Errorf("P9.3: Lay of %s writes", why)
	}
}

// turned tells what is wrong with a needle of 5 bytes of which a byte is turned.
func turned(i int, bits byte) api.Code {
	switch {
	case i == 20 && bits == 1:
		return api.ErrSum // of 4 bytes then, which have as many noughts behind them
	case i == 20, i == 21 && bits == 1:
		return api.ErrShort // of more bytes than the position says
	case i < 8, i >= 21 && i < 24, i >= 28 && i < 32, i >= 37:
		return api.ErrForm
	}
	return api.ErrSum
}

func TestGetOfSpoiltBytes(t *testing.T) {
	n := blob(8, 5)
	for i := range 40 {
		for _, bits := range []byte{1, 0x80, 255} {
			d, v := begun(t, plenty)
			must(t, v.Put(blob(7, 9)), v.Put(n), v.Put(blob(9, 9)), d.Spoil("v3.1", 64+i, bits))
			spoiltAt(t, fmt.Sprintf("byte %d turned by %d", i, bits), v, n, 64, turned(i, bits))
			gets(t, "P9.3: what stands beside spoilt bytes", v, blob(7, 9), blob(9, 9))
			must(t, d.Spoil("v3.1", 64+i, bits))
			gets(t, "P9.3: what isn't spoilt any more", v, n)
		}
	}
}

// Of a position that isn't the needle's (as a Commit may hand it in).
func TestGetOfAnotherNeedle(t *testing.T) {
	n := blob(8, 5)
	p := positions(n)[0]
	for why, x := range map[string]struct {
		p    api.Pos
		code api.Code
	}{
		"another key":      {api.Pos{Key: 9, Off: 16, Len: 5, Cookie: 108}, api.ErrForm},
		"another cookie":   {api.Pos{Key: 8, Off: 16, Len: 5, Cookie: 109}, api.ErrForm},
		"a shorter length": {api.Pos{Key: 8, Off: 16, Len: 3, Cookie: 108}, api.ErrForm},
		"a longer length":  {api.Pos{Key: 8, Off: 16, Len: 9, Cookie: 108}, api.ErrForm},
		"no data":          {api.Pos{Key: 8, Off: 16, Len: 0, Cookie: 108}, api.ErrShort},
		"no length":        {api.Pos{Key: 8, Off: 16, Len: -1, Cookie: 108}, api.ErrShort},
		"too long":         {api.Pos{Key: 8, Off: 16, Len: 4097, Cookie: 108}, api.ErrShort},
		"the superblock":   {api.Pos{Key: 8, Off: 0, Len: 5, Cookie: 108}, api.ErrForm},
		"a gone one":       {api.Pos{Key: 8, Off: 56, Len: 0, Cookie: 108}, api.ErrForm},
		"the right one":    {p, 0},
	} {
		d, v := begun(t, plenty)
		file := super(3, 2) + string(text(n, dead(8)))
		laid(t, d, "v3.2", file)
		must(t, v.Commit([]api.Pos{x.p}, len(file)))
		if x.code == 0 {
			gets(t, "P9.3: "+why, v, n)
			continue
		}
		got, e := v.Get(x.p.Key, x.p.Cookie)
		if !needle.Same(got, api.Needle{}) {
			t.Errorf("P9.3: Get of %s: %v", why, got)
		}
		at(t, "P9.3: Get of "+why, e, "v3.2", x.p.Off, x.code)
	}
}

func TestRaw(t *testing.T) {
	d, v := begun(t, plenty)
	must(t, v.Put(blob(7, 5)), v.Put(blob(8, 100)), v.Del(7, 107))
	all := super(3, 1) + string(text(blob(7, 5), blob(8, 100), dead(7)))
	raw := func(p api.Pos, want string, code api.Code) {
		t.Helper()
		b, e := v.Raw(p)
		if string(b) != want {
			t.Errorf("P9.3: Raw of %+v: %q; want %q", p, b, want)
		}
		is(t, fmt.Sprintf("P9.3: Raw of %+v", p), e, code)
	}
	for _, p := range v.Keys(0, 9) {
		raw(p, all[p.Off:p.Off+needle.Size(p.Len)], 0)
	}
	// Of what is no needle's place the bytes are told all the same.
	raw(api.Pos{Key: 9, Off: 0, Len: 8}, all[:40], 0)
	raw(api.Pos{Key: 9, Off: 1, Len: 1, Cookie: 1, Gone: true}, all[1:41], 0)
	raw(api.Pos{Off: len(all) - 32}, all[len(all)-32:], 0)
	raw(api.Pos{Off: len(all) - 31}, "", api.ErrShort)
	raw(api.Pos{Off: len(all) - 32, Len: 1}, "", api.ErrShort)
	raw(api.Pos{Off: len(all)}, "", api.ErrShort)
	raw(api.Pos{Off: math.MaxInt, Len: 4096}, "", api.ErrShort)
	raw(api.Pos{Off: -1}, "", api.ErrArg)
	raw(api.Pos{Off: math.MinInt, Len: 4096}, "", api.ErrArg)
	// No needle has such a length, nor bytes.
	for _, n := range []int{-1, 4097, math.MinInt, math.MaxInt} {
		raw(api.Pos{Off: 16, Len: n}, "", 0)
	}
	must(t, d.Arm(0))
	raw(api.Pos{Off: 16}, "", api.ErrDown)
	must(t, d.Crash(disk.Picks{}), d.Remove("v3.1"))
	raw(api.Pos{Off: 16}, "", api.ErrNone)
}

func TestKeys(t *testing.T) {
	_, v := begun(t, plenty)
	l := []api.Needle{blob(5, 3), blob(0, 4), blob(math.MaxUint64, 0), blob(3, 9), dead(5)}
	for _, n := range l {
		must(t, v.Lay(n))
	}
	all := positions(l...)
	for _, x := range []struct {
		from    uint64
		most    int
		i, upto int
	}{
		{0, 4, 0, 4}, {0, 5, 0, 4}, {0, math.MaxInt, 0, 4}, {0, 1, 0, 1}, {0, 0, 0, 0}, {0, -1, 0, 0}, {0, math.MinInt, 0, 0},
		{1, 9, 1, 4}, {3, 9, 1, 4}, {4, 1, 2, 3}, {5, 2, 2, 4}, {6, 9, 3, 4}, {math.MaxUint64, 9, 3, 4},
	} {
		if got := v.Keys(x.from, x.most); !slices.Equal(got, all[x.i:x.upto]) {
			t.Errorf("P9.3: Keys(%d, %d): %v; want %v", x.from, x.most, got, all[x.i:x.upto])
		}
	}
}

func TestLay(t *testing.T) {
	for _, sealed := range []bool{false, true} {
		d, v := begun(t, plenty)
		must(t, v.Set(5, sealed))
		want := new3
		want.Sealed = sealed
		var l []api.Needle
		for i, x := range []struct {
			n       api.Needle
			code    api.Code
			written bool
		}{
			{blob(7, 5), 0, true},                                         // without a position, there
			{dead(8), 0, true},                                            // without a position, gone
			{blob(9, 0), 0, true},                                         //
			{blob(7, 5), 0, false},                                        // the same blob
			{blob(7, 6), api.ErrThere, false},                             // another one
			{api.Needle{Key: 7, Cookie: 107}, api.ErrThere, false},        // and none
			{blob(9, 0), 0, false},                                        // nil and empty data are alike
			{blob(9, 1), api.ErrThere, false},                             //
			{api.Needle{Key: 7, Cookie: 1}, api.ErrCookie, false},         // another cookie, of what is there
			{api.Needle{Key: 7, Gone: true}, api.ErrCookie, false},        // and to be gone
			{api.Needle{Key: 8, Cookie: 1}, api.ErrCookie, false},         // and of what is gone
			{api.Needle{Key: 8, Gone: true}, api.ErrCookie, false},        //
			{dead(8), 0, false},                                           // gone already
			{blob(8, 5), 0, false},                                        // a blob of what is gone
			{dead(7), 0, true},                                            // to be gone
			{blob(7, 5), 0, false},                                        // and not there again
			{dead(7), 0, false},                                           //
			{blob(6, 4097), api.ErrLong, false},                           // what may not be
			{api.Needle{Key: 6, Gone: true, Data: []byte("x")}, 1, false}, //
			{blob(7, 4097), api.ErrLong, false},                           //
			{api.Needle{Key: 7, Cookie: 1, Data: make([]byte, 4097)}, api.ErrLong, false},
		} {
			is(t, fmt.Sprintf("P9.3: Lay %d, sealed %v", i, sealed), v.Lay(x.n), x.code)
			if x.written {
				l = append(l, x.n)
			}
			state(t, fmt.Sprint("P9.3: behind lay ", i), v, want, l...)
		}
		hasFiles(t, "P9.3: behind lays", d, "m3", manifest(3, 1, 5, sealed), "v3.1", super(3, 1)+string(text(l...)))
		must(t, d.Crash(disk.Picks{}))
		hasFiles(t, "P9.3: lays and a crash", d, "m3", manifest(3, 1, 5, sealed), "v3.1", super(3, 1)+string(text(l...)))
	}
}

func TestLayOfADiskThatEnds(t *testing.T) {
	d, v := begun(t, plenty)
	must(t, v.Put(blob(7, 5)), v.Put(blob(8, 5)), v.Del(8, 108), d.Arm(0))
	is(t, "P9.3: Lay of what is there, down", v.Lay(blob(7, 5)), api.ErrDown)
	is(t, "P9.3: Lay of another blob, down", v.Lay(blob(7, 6)), api.ErrDown)
	is(t, "P9.3: Lay of what is gone, down", v.Lay(blob(8, 5)), 0)
	is(t, "P9.3: Lay of another cookie, down", v.Lay(api.Needle{Key: 7}), api.ErrCookie)
	is(t, "P9.3: Lay of what may not be, down", v.Lay(blob(1, 5000)), api.ErrLong)
	must(t, d.Crash(disk.Picks{}), d.Cut("v3.1", 55))
	is(t, "P9.3: Lay of what is cut off", v.Lay(blob(7, 5)), api.ErrShort)
}

func TestNil(t *testing.T) {
	var v *vol.Vol
	for _, n := range []api.Needle{{}, blob(7, 5), dead(7), blob(7, 4097), {Gone: true, Data: []byte("x")}} {
		is(t, "P9.2: Put of nil", v.Put(n), api.ErrNil)
		is(t, "P9.2: Del of nil", v.Del(n.Key, n.Cookie), api.ErrNil)
		refuses(t, "P9.3: of nil", v, n.Key, n.Cookie, api.ErrNil)
		is(t, "P9.3: Lay of nil", v.Lay(n), api.ErrNil)
	}
	for _, n := range []int{math.MinInt, -1, 0, 16, 1 << 31, math.MaxInt} {
		if b, e := v.Raw(api.Pos{Off: n, Len: n}); len(b) > 0 || e != error(api.ErrNil) {
			t.Errorf("P9.3: Raw of nil: %v, %v", b, e)
		}
		if l := v.Keys(0, n); len(l) > 0 {
			t.Errorf("P9.3: Keys of nil: %v", l)
		}
		is(t, "P9.3: Set of nil", v.Set(n, true), api.ErrNil)
		is(t, "P9.3: Commit of nil", v.Commit(nil, n), api.ErrNil)
	}
	if c := v.Snapshot(); c.Volume != 0 || c.Gen != 0 || c.Upto != 0 || len(c.L) > 0 || v.Info() != (vol.Info{}) {
		t.Errorf("P9.3: of nil: %v, %v", c, v.Info())
	}
}

// A volume that neither Make nor Open made has nothing, and does nothing.
func TestAVolumeOfNobody(t *testing.T) {
	v := &vol.Vol{}
	for why, e := range map[string]error{
		"Put": v.Put(blob(7, 5)), "Del": v.Del(7, 107), "Lay": v.Lay(blob(7, 5)), "Lay gone": v.Lay(dead(7)), "Set": v.Set(0, true), "Commit": v.Commit(nil, 0),
	} {
		if e == nil {
			t.Errorf("R1: %s of a volume of nobody: no error", why)
		}
	}
	refuses(t, "R1: of a volume of nobody", v, 7, 107, api.ErrNone)
	if b, e := v.Raw(api.Pos{}); len(b) > 0 || e == nil || len(v.Keys(0, 9)) > 0 || len(v.Snapshot().L) > 0 || v.Info() != (vol.Info{}) {
		t.Errorf("R1: of a volume of nobody: %v, %v, %v", b, e, v.Info())
	}
}

func TestWhatIsHandedInIsNotKept(t *testing.T) {
	d, v := begun(t, plenty)
	for i, do := range []func(n api.Needle) error{v.Put, v.Lay, v.Lay} {
		n := blob(uint64(7+i/2), 5)
		room := append(make([]byte, 0, 64), n.Data...)
		before := bytes.Clone(room[:64])
		is(t, "P9.2: Put or Lay", do(api.Needle{Key: n.Key, Cookie: n.Cookie, Data: room}), 0)
		if !bytes.Equal(room[:64], before) {
			t.Errorf("R4: the data was changed: %q", room[:64])
		}
		sample.Spoil(room)
		gets(t, "R4: the data was written over", v, n)
	}
	file := super(3, 2) + string(text(blob(7, 5), blob(8, 5)))
	laid(t, d, "v3.2", file)
	l := append(make([]api.Pos, 0, 9), positions(blob(7, 5), blob(8, 5))...)
	before := slices.Clone(l[:9])
	must(t, v.Commit(l, len(file)), v.Del(7, 107), v.Put(blob(1, 1)))
	if !slices.Equal(l[:9], before) {
		t.Errorf("R4: Commit's positions were changed: %v", l[:9])
	}
	clear(l[:9])
	want := new3
	want.Gen = 2
	state(t, "R4: Commit's positions were written over", v, want, blob(7, 5), blob(8, 5), dead(7), blob(1, 1))
}

func TestWhatIsToldIsTheCallers(t *testing.T) {
	d, v := begun(t, plenty)
	must(t, v.Put(blob(7, 5)), v.Put(blob(8, 100)))
	one, two := sure(v.Get(8, 108)), sure(v.Get(8, 108))
	sample.Spoil(one.Data)
	if !needle.Same(two, blob(8, 100)) {
		t.Error("R4: two answers of Get share memory")
	}
	p := v.Keys(8, 1)[0]
	raw, more := sure(v.Raw(p)), sure(v.Raw(p))
	sample.Spoil(raw)
	if !bytes.Equal(more, text(blob(8, 100))) {
		t.Error("R4: two answers of Raw share memory")
	}
	for _, l := range [][]api.Pos{v.Keys(0, 1), v.Keys(0, 2), v.Snapshot().L} {
		other := [][]api.Pos{v.Keys(0, 2), v.Snapshot().L}
		clear(l[:cap(l)])
		for _, o := range other {
			if !slices.Equal(o, positions(blob(7, 5), blob(8, 100))) {
				t.Error("R4: two answers of Keys or Snapshot share memory")
			}
		}
	}
	state(t, "R4: what was told was written over", v, new3, blob(7, 5), blob(8, 100))
	gets(t, "R4: what was told was written over", v, blob(7, 5), blob(8, 100))
	// And what was told stays as it is, whatever the volume does.
	c, keys := v.Snapshot(), v.Keys(0, 9)
	must(t, v.Del(7, 107), v.Put(blob(1, 1)), d.Spoil("v3.1", 70, 255))
	if !slices.Equal(c.L, positions(blob(7, 5), blob(8, 100))) || !slices.Equal(keys, c.L) || !needle.Same(two, blob(8, 100)) {
		t.Errorf("R4: what was told is the volume's memory: %v, %v", c, keys)
	}
}

// Two volumes on one disk have nothing to do with each other.
func TestTwoVolumes(t *testing.T) {
	d, v := begun(t, plenty)
	w, e := vol.Make(d, 33, plenty, 0)
	must(t, e, v.Put(blob(7, 5)), w.Put(blob(7, 6)), w.Put(blob(8, 1)), v.Set(9, true), w.Del(8, 108))
	other := vol.Info{Number: 33, Gen: 1}
	mine := vol.Info{Number: 3, Gen: 1, Epoch: 9, Sealed: true}
	for _, why := range []string{"P9.2: two volumes", "P9.4: two volumes, opened again"} {
		state(t, why, v, mine, blob(7, 5))
		state(t, why, w, other, blob(7, 6), blob(8, 1), dead(8))
		gets(t, why, v, blob(7, 5))
		gets(t, why, w, blob(7, 6))
		must(t, d.Crash(disk.Picks{}))
		v, w = sure(vol.Open(d, 3, plenty)), sure(vol.Open(d, 33, plenty))
	}
}

func TestSnapshotIsACheckpoint(t *testing.T) {
	_, v := begun(t, plenty)
	is(t, "P9.3: Snapshot of a new volume", check.Right(v.Snapshot()), 0)
	must(t, v.Put(blob(7, 5)), v.Put(blob(2, 4096)), v.Del(7, 107))
	is(t, "P9.3: Snapshot", check.Right(v.Snapshot()), 0)
	is(t, "P9.3: Snapshot of 4096 keys", check.Right(many(t, 4096).Snapshot()), 0)
}
