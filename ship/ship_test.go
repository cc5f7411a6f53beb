package ship_test

import (
	"cmp"
	"fmt"
	"maps"
	"math"
	"slices"
	"testing"

	"corncrib/api"
	"corncrib/compact"
	"corncrib/disk"
	"corncrib/needle"
	"corncrib/sample"
	"corncrib/ship"
	"corncrib/vol"
)

const (
	plenty   = 1 << 20 // a capacity of no weight
	greatest = 1<<64 - 1
)

// is asks that e is just this code, found by errors.Is; 0 is no error.
func is(t *testing.T, why string, e error, code api.Code) {
	t.Helper()
	if !sample.Is(e, code) {
		t.Errorf("%s: %v; want code %d", why, e, code)
	}
}

// bare asks that e is this code itself, and doesn't wrap it; 0 is no error.
func bare(t *testing.T, why string, e error, code api.Code) {
	t.Helper()
	is(t, why, e, code)
	if code != 0 && e != code {
		t.Errorf("%s: %v; want code %d as it is", why, e, code)
	}
}

// isAt asks that e is just this code, in an api.At of this place.
func isAt(t *testing.T, why string, e error, code api.Code, file string, off int) {
	t.Helper()
	is(t, why, e, code)
	if at, ok := e.(*api.At); !ok || at.File != file || at.Off != off || at.Err != code {
		t.Errorf("%s: %v; want code %d at %s, %d", why, e, code, file, off)
	}
}

// must asks that nothing is wrong with what a test begins with.
func must(t *testing.T, errs ...error) {
	t.Helper()
	for i, e := range errs {
		if e != nil {
			t.Fatalf("call %d: %v", i, e)
		}
	}
}

// sure tells what was told without an error.
func sure[T any](x T, e error) T {
	if e != nil {
		panic(e)
	}
	return x
}

// blob tells a needle whose data hangs on its size alone.
func blob(key uint64, size int) api.Needle {
	return api.Needle{Key: key, Cookie: uint32(key) + 100, Data: sample.Bytes(size)}
}

// dead tells that the needle that blob tells is gone.
func dead(key uint64) api.Needle {
	return api.Needle{Key: key, Cookie: uint32(key) + 100, Gone: true}
}

// other tells the needle with another cookie.
func other(n api.Needle) api.Needle {
	n.Cookie++
	return n
}

// blobs tells so many needles of all kinds of keys; the first one has the key 0,
// the last one the greatest, if there are so many.
func blobs(n int) []api.Needle {
	l := make([]api.Needle, n)
	for i := range l {
		l[i] = blob(uint64(i)*(greatest/4096), i%11)
	}
	if n > 1 {
		l[n-1] = blob(greatest, 3)
	}
	return l
}

// file tells the name of a volume's data file.
func file(v *vol.Vol) string {
	i := v.Info()
	return fmt.Sprintf("v%d.%d", i.Number, i.Gen)
}

// begun tells a disk, and volume 3 upon it, with needles.
func begun(t *testing.T, l ...api.Needle) (*disk.Disk, *vol.Vol) {
	t.Helper()
	d := sure(disk.New(plenty))
	v := sure(vol.Make(d, 3, plenty, 5))
	for _, n := range l {
		must(t, v.Lay(n))
	}
	return d, v
}

// files tells what a disk that isn't down has.
func files(d *disk.Disk) map[string]string {
	m := map[string]string{}
	for _, name := range d.Names() {
		m[name] = string(sure(d.Read(name, 0, sure(d.Size(name)))))
	}
	return m
}

// all tells all positions of a volume.
func all(v *vol.Vol) []api.Pos { return v.Keys(0, math.MaxInt) }

// pos tells a key's position, of those that a volume has.
func pos(t *testing.T, v *vol.Vol, key uint64) api.Pos {
	t.Helper()
	l := all(v)
	i := slices.IndexFunc(l, func(p api.Pos) bool { return p.Key == key })
	if i < 0 {
		t.Fatalf("no position of %d", key)
	}
	return l[i]
}

// spoil turns a bit of the needles of keys, or back.
func spoil(t *testing.T, d *disk.Disk, v *vol.Vol, off int, keys ...uint64) {
	t.Helper()
	for _, key := range keys {
		must(t, d.Spoil(file(v), pos(t, v, key).Off+off, 4))
	}
}

// image is all that there is to be seen of a volume, and of its disk.
type image struct {
	i     vol.Info
	l     []api.Pos
	files map[string]string
	used  int
}

func seen(d *disk.Disk, v *vol.Vol) image {
	return image{v.Info(), all(v), files(d), d.Used()}
}

// still asks that nothing has changed.
func (m image) still(t *testing.T, why string, d *disk.Disk, v *vol.Vol) {
	t.Helper()
	o := seen(d, v)
	if m.i != o.i || !slices.Equal(m.l, o.l) || !maps.Equal(m.files, o.files) || m.used != o.used {
		t.Errorf("%s: something has changed: %+v, %v, %v; was %+v, %v, %v", why, o.i, o.l, d.Names(), m.i, m.l, slices.Sorted(maps.Keys(m.files)))
	}
}

// idle asks that a call does no deed on disks that aren't down.
func idle(t *testing.T, why string, do func(), disks ...*disk.Disk) {
	t.Helper()
	for _, d := range disks {
		must(t, d.Arm(1))
	}
	do()
	for _, d := range disks {
		if d.Down() {
			t.Fatalf("%s: a deed was done", why)
		}
		must(t, d.Arm(math.MaxInt))
	}
}

// newest tells, by their keys, what a volume has on which needles were laid.
func newest(laid []api.Needle) []api.Needle {
	m := map[uint64]api.Needle{}
	for _, n := range laid {
		if _, there := m[n.Key]; !there || n.Gone {
			m[n.Key] = n
		}
	}
	return slices.SortedFunc(maps.Values(m), func(a, b api.Needle) int { return cmp.Compare(a.Key, b.Key) })
}

// load tells what there is to be taken from a volume on which needles were laid,
// and of which blobs are bad.
func load(laid []api.Needle, from uint64, most int, bad ...uint64) ship.Load {
	var x ship.Load
	keys := 0
	for _, n := range newest(laid) {
		if n.Key < from {
			continue
		}
		if keys == most {
			x.More, x.Next = true, n.Key
			break
		}
		keys++
		if slices.Contains(bad, n.Key) && !n.Gone {
			x.Bad++
			continue
		}
		x.L = append(x.L, n)
	}
	return x
}

// needles asks that two lists of them are alike.
func needles(t *testing.T, why string, got, want []api.Needle) {
	t.Helper()
	if !slices.EqualFunc(got, want, needle.Same) {
		t.Errorf("%s: needles %.300v; want %.300v", why, fmt.Sprint(got), fmt.Sprint(want))
	}
}

// took asks that a load is this one.
func took(t *testing.T, why string, got, want ship.Load) {
	t.Helper()
	needles(t, why, got.L, want.L)
	if got.Next != want.Next || got.More != want.More || got.Bad != want.Bad {
		t.Errorf("%s: Next %d, More %v, Bad %d; want %d, %v, %d", why, got.Next, got.More, got.Bad, want.Next, want.More, want.Bad)
	}
}

// takes asks what Take tells.
func takes(t *testing.T, why string, v *vol.Vol, from uint64, most int, want ship.Load) {
	t.Helper()
	why = fmt.Sprintf("P13.1: Take(%d, %d) %s", from, most, why)
	got, e := ship.Take(v, from, most)
	is(t, why, e, 0)
	took(t, why, got, want)
}

// takesNot asks that Take tells an error as it is, and nothing else.
func takesNot(t *testing.T, why string, v *vol.Vol, from uint64, most int, code api.Code) {
	t.Helper()
	why = fmt.Sprintf("P13.1: Take(%d, %d) %s", from, most, why)
	got, e := ship.Take(v, from, most)
	bare(t, why, e, code)
	if got.L != nil {
		t.Errorf("%s: a list beside the error", why)
	}
	took(t, why, got, ship.Load{})
}

// kinds are needles that are laid on a volume, one behind the other.
var kinds = map[string][]api.Needle{
	"without needles":   nil,
	"of one":            {blob(7, 5)},
	"of one gone":       {dead(7)},
	"of the key 0":      {blob(0, 5)},
	"of the last key":   {blob(greatest, 5)},
	"of both":           {blob(greatest, 5), blob(0, 8)},
	"of both, gone":     {blob(greatest, 5), dead(0), dead(greatest)},
	"of neighbours":     {blob(greatest-1, 5), blob(greatest, 8), dead(1), blob(0, 1)},
	"of a last but one": {blob(greatest-1, 5), blob(greatest-2, 8), blob(1, 1)},
	"of blobs":          {blob(9, 4096), blob(7, 5), blob(0, 8), blob(greatest, 0), blob(8, 33), blob(10, 0), blob(11, 4095), blob(12, 7)},
	"of some":           {blob(9, 40), blob(7, 5), dead(9), blob(1<<32, 8), dead(6), blob(8, 33), dead(1 << 33), blob(1<<63, 2), blob(1<<63-1, 0)},
	"of gone ones":      {blob(7, 5), dead(7), dead(2), blob(1, 1), dead(1), dead(3), blob(3, 7), dead(3)},
}

// states are what a volume may come to, and stay what it is.
var states = map[string]func(t *testing.T, d *disk.Disk, v *vol.Vol) *vol.Vol{
	"": func(t *testing.T, d *disk.Disk, v *vol.Vol) *vol.Vol { return v },
	", sealed": func(t *testing.T, d *disk.Disk, v *vol.Vol) *vol.Vol {
		must(t, v.Set(5, true))
		return v
	},
	", compacted": func(t *testing.T, d *disk.Disk, v *vol.Vol) *vol.Vol {
		must(t, compact.Run(d, v))
		return v
	},
	", opened again": func(t *testing.T, d *disk.Disk, v *vol.Vol) *vol.Vol {
		must(t, d.Crash(disk.Picks{}))
		return sure(vol.Open(d, 3, plenty))
	},
}

// each begins anew with a volume of each kind in each state.
func each(t *testing.T, do func(kind string, d *disk.Disk, v *vol.Vol, laid []api.Needle)) {
	t.Helper()
	for _, kind := range slices.Sorted(maps.Keys(kinds)) {
		for _, state := range slices.Sorted(maps.Keys(states)) {
			d, v := begun(t, kinds[kind]...)
			v = states[state](t, d, v)
			do("of a volume "+kind+state, d, v, kinds[kind])
		}
	}
}

// keysBeside tells the keys of needles, those beside them, and the ends.
func keysBeside(l []api.Needle) []uint64 {
	keys := []uint64{0, 1, greatest - 1, greatest, 1 << 63, 1<<63 - 1}
	for _, n := range l {
		keys = append(keys, n.Key, n.Key-1, n.Key+1)
	}
	slices.Sort(keys)
	return slices.Compact(keys)
}

// wrongMosts are those of which there is no load.
var wrongMosts = []int{math.MinInt, math.MinInt32, -64, -1, 0, 65, 66, 128, 4096, 1<<32 + 1, math.MaxInt - 1, math.MaxInt}

func TestTakeOfNoVolume(t *testing.T) {
	for _, from := range []uint64{0, 7, greatest} {
		for _, most := range append([]int{1, 2, 63, 64}, wrongMosts...) {
			takesNot(t, "of no volume", nil, from, most, api.ErrNil)
		}
	}
}

func TestTakeOfAMost(t *testing.T) {
	d, v := begun(t, blobs(70)...)
	_, empty := begun(t)
	for _, from := range []uint64{0, 7, greatest} {
		for _, most := range wrongMosts {
			takesNot(t, "of a volume", v, from, most, api.ErrArg)
			takesNot(t, "of a new volume", empty, from, most, api.ErrArg)
			takesNot(t, "of a volume of nobody", &vol.Vol{}, from, most, api.ErrArg)
		}
	}
	for most := 1; most <= 64; most++ {
		x, e := ship.Take(v, 0, most)
		is(t, fmt.Sprintf("P13.1: Take of at most %d", most), e, 0)
		if len(x.L) != most || !x.More || x.Next != blobs(70)[most].Key {
			t.Errorf("P13.1: Take of at most %d: %d needles, More %v, Next %d", most, len(x.L), x.More, x.Next)
		}
	}
	// The argument is looked at ahead of all that is read.
	must(t, d.SyncNames(), d.Arm(0))
	takesNot(t, "of a disk that is down", v, 0, 0, api.ErrArg)
	takesNot(t, "of a disk that is down", v, 0, 65, api.ErrArg)
}

// The chapter's example.
func TestTakeOfANewVolume(t *testing.T) {
	d, v := begun(t)
	for _, from := range []uint64{0, 1, 7, 1 << 63, greatest} {
		for _, most := range []int{1, 2, 63, 64} {
			takes(t, "of a new volume", v, from, most, ship.Load{})
			takes(t, "of a volume of nobody", &vol.Vol{}, from, most, ship.Load{})
		}
	}
	must(t, d.Arm(0))
	takes(t, "of a new volume on a disk that is down", v, 0, 64, ship.Load{})
}

// From each key and beside it, with each most: nothing of the volume changes.
func TestTake(t *testing.T) {
	each(t, func(kind string, d *disk.Disk, v *vol.Vol, laid []api.Needle) {
		was := seen(d, v)
		idle(t, "P13.1: Take "+kind, func() {
			for _, from := range keysBeside(laid) {
				for _, most := range []int{1, 2, 3, 4, 5, 6, 7, 8, 9, 10, 63, 64} {
					takes(t, kind, v, from, most, load(laid, from, most))
				}
			}
		}, d)
		was.still(t, "P13.1: Take "+kind, d, v)
	})
}

// What is told of some loads, number by number.
func TestTakeOfLoads(t *testing.T) {
	some := []uint64{10, 20, 30}
	ends := []uint64{0, 1, greatest - 1, greatest}
	for _, x := range []struct {
		keys []uint64
		from uint64
		most int
		l    []uint64
		next uint64
		more bool
	}{
		{some, 0, 1, []uint64{10}, 20, true}, {some, 0, 2, []uint64{10, 20}, 30, true}, {some, 0, 3, some, 0, false}, {some, 0, 4, some, 0, false}, {some, 0, 64, some, 0, false},
		{some, 10, 1, []uint64{10}, 20, true}, {some, 11, 1, []uint64{20}, 30, true}, {some, 20, 1, []uint64{20}, 30, true}, {some, 20, 2, []uint64{20, 30}, 0, false},
		{some, 15, 2, []uint64{20, 30}, 0, false}, {some, 15, 3, []uint64{20, 30}, 0, false}, {some, 21, 1, []uint64{30}, 0, false}, {some, 30, 1, []uint64{30}, 0, false},
		{some, 30, 64, []uint64{30}, 0, false}, {some, 31, 1, nil, 0, false}, {some, 31, 64, nil, 0, false}, {some, greatest, 1, nil, 0, false}, {some, 1 << 63, 64, nil, 0, false},
		{ends, 0, 1, []uint64{0}, 1, true}, {ends, 1, 1, []uint64{1}, greatest - 1, true}, {ends, 2, 1, []uint64{greatest - 1}, greatest, true}, {ends, 2, 2, []uint64{greatest - 1, greatest}, 0, false},
		{ends, 0, 3, []uint64{0, 1, greatest - 1}, greatest, true}, {ends, 0, 4, ends, 0, false}, {ends, greatest - 1, 1, []uint64{greatest - 1}, greatest, true},
		{ends, greatest, 1, []uint64{greatest}, 0, false}, {ends, greatest, 64, []uint64{greatest}, 0, false},
		{[]uint64{0}, 0, 1, []uint64{0}, 0, false}, {[]uint64{0}, 1, 1, nil, 0, false}, {[]uint64{0, greatest}, 0, 1, []uint64{0}, greatest, true}, {[]uint64{0, greatest}, 0, 2, []uint64{0, greatest}, 0, false},
		{[]uint64{0, greatest}, 1, 1, []uint64{greatest}, 0, false}, {[]uint64{greatest}, 0, 1, []uint64{greatest}, 0, false}, {[]uint64{greatest}, greatest, 1, []uint64{greatest}, 0, false},
		{[]uint64{1 << 63, 1<<63 - 1}, 0, 1, []uint64{1<<63 - 1}, 1 << 63, true}, {[]uint64{1 << 63, 1<<63 - 1}, 1 << 63, 1, []uint64{1 << 63}, 0, false},
	} {
		for _, needle := range []func(uint64) api.Needle{dead, func(key uint64) api.Needle { return blob(key, int(key%9)) }} {
			_, v := begun(t)
			want := ship.Load{Next: x.next, More: x.more}
			for _, key := range x.keys {
				must(t, v.Lay(needle(key)))
			}
			for _, key := range x.l {
				want.L = append(want.L, needle(key))
			}
			takes(t, fmt.Sprintf("of the keys %v", x.keys), v, x.from, x.most, want)
		}
	}
}

// Volumes of as many keys as a load, and of more: each load begins where the last
// one says.
func TestTakeLoadByLoad(t *testing.T) {
	for _, n := range []int{1, 2, 62, 63, 64, 65, 66, 127, 128, 129, 192, 4096} {
		_, v := begun(t, blobs(n)...)
		for _, most := range []int{1, 2, 31, 32, 63, 64} {
			why := fmt.Sprintf("P13.1: %d keys in loads of %d", n, most)
			var got []api.Needle
			x := ship.Load{More: true}
			for loads := 0; x.More; loads++ {
				x = sure(ship.Take(v, x.Next, most))
				got = append(got, x.L...)
				if behind := n - len(got); x.More != (behind > 0) || len(x.L) != most && behind > 0 || x.Bad != 0 || loads > n {
					t.Fatalf("%s: load %d: %d needles, More %v, %d behind", why, loads, len(x.L), x.More, behind)
				}
			}
			needles(t, why, got, blobs(n))
			if x.Next != 0 {
				t.Errorf("%s: Next of the last one is %d", why, x.Next)
			}
		}
	}
}

// Of a key that is gone its position tells all: a needle without data, whatever
// the blob was, and whatever became of its bytes.
func TestTakeOfWhatIsGone(t *testing.T) {
	d, v := begun(t, blob(7, 5), blob(8, 4096), blob(9, 0), dead(10))
	must(t, v.Del(7, 107), v.Del(8, 108), v.Del(9, 109))
	want := []api.Needle{{Key: 7, Cookie: 107, Gone: true}, {Key: 8, Cookie: 108, Gone: true}, {Key: 9, Cookie: 109, Gone: true}, {Key: 10, Cookie: 110, Gone: true}}
	asks := func(why string) {
		t.Helper()
		takes(t, "of what is gone"+why, v, 0, 64, ship.Load{L: want})
		takes(t, "of what is gone"+why, v, 8, 1, ship.Load{L: want[1:2], More: true, Next: 9})
		for _, n := range sure(ship.Take(v, 0, 64)).L {
			if len(n.Data) != 0 {
				t.Errorf("P13.1: Take of what is gone%s: %d bytes of data", why, len(n.Data))
			}
		}
	}
	asks("")
	for off := range 32 {
		spoil(t, d, v, off, 7, 8, 9, 10)
		asks(", spoilt")
		spoil(t, d, v, off, 7, 8, 9, 10)
	}
	must(t, d.Cut("v3.1", 16))
	asks(", of a file that is cut")
	must(t, d.Remove("v3.1"))
	asks(", without a file")
	must(t, d.Arm(0))
	asks(", on a disk that is down")
}

// Data of all sizes about the words' ends, and at both limits.
func TestTakeOfSizes(t *testing.T) {
	for _, size := range []int{0, 1, 7, 8, 9, 15, 16, 17, 4087, 4088, 4089, 4095, 4096} {
		_, v := begun(t, blob(7, 0), blob(8, size), blob(9, 4096))
		takes(t, fmt.Sprintf("of %d bytes", size), v, 8, 1, ship.Load{L: []api.Needle{blob(8, size)}, More: true, Next: 9})
		takes(t, fmt.Sprintf("of %d bytes", size), v, 0, 64, ship.Load{L: []api.Needle{blob(7, 0), blob(8, size), blob(9, 4096)}})
	}
}

// Each bit of a needle's front, sum, data and padding.
func TestTakeOfTurnedBits(t *testing.T) {
	for _, size := range []int{0, 5, 8} {
		laid := []api.Needle{blob(7, 3), blob(8, size), blob(9, 3), dead(10)}
		d, v := begun(t, laid...)
		at, end := pos(t, v, 8).Off, pos(t, v, 9).Off
		for bit := range 8 * (end - at) {
			must(t, d.Spoil("v3.1", at+bit/8, 1<<(bit%8)))
			why := fmt.Sprintf("with bit %d of %d bytes turned", bit, size)
			for _, from := range []uint64{0, 8, 9} {
				for most := 1; most <= 5; most++ {
					takes(t, why, v, from, most, load(laid, from, most, 8))
				}
			}
			must(t, d.Spoil("v3.1", at+bit/8, 1<<(bit%8)))
		}
		takes(t, "with all turned back", v, 0, 64, load(laid, 0, 64))
	}
}

// Each choice of needles is bad, wherever these stand in a load, at its ends, and
// behind it: More and Next are as the keys say.
func TestTakeOfBadNeedles(t *testing.T) {
	each(t, func(kind string, d *disk.Disk, v *vol.Vol, laid []api.Needle) {
		keys := all(v)
		for which := range 1 << len(keys) {
			var bad []uint64
			for i, p := range keys {
				if which>>i&1 != 0 {
					bad = append(bad, p.Key)
				}
			}
			off := []int{0, 4, 9, 17, 24, 31}[which%6]
			spoil(t, d, v, off, bad...)
			was := seen(d, v)
			why := fmt.Sprintf("%s of which %v are spoilt", kind, bad)
			idle(t, "P13.1: Take "+why, func() {
				for most := 1; most <= len(keys)+1; most++ {
					takes(t, why, v, 0, most, load(laid, 0, most, bad...))
					if len(bad) > 0 {
						takes(t, why, v, bad[0], most, load(laid, bad[0], most, bad...))
					}
				}
			}, d)
			was.still(t, "P13.1: Take "+why, d, v)
			spoil(t, d, v, off, bad...)
		}
	})
}

// A load all of which is bad has a next one all the same.
func TestTakeOfNothingButBad(t *testing.T) {
	l := blobs(129)
	d, v := begun(t, l...)
	for _, n := range l[:128] {
		spoil(t, d, v, 12, n.Key)
	}
	takes(t, "of bad needles", v, 0, 64, ship.Load{More: true, Next: l[64].Key, Bad: 64})
	takes(t, "of bad needles", v, l[64].Key, 64, ship.Load{More: true, Next: greatest, Bad: 64})
	takes(t, "of a bad needle", v, l[64].Key, 1, ship.Load{More: true, Next: l[65].Key, Bad: 1})
	takes(t, "behind bad needles", v, l[127].Key+1, 1, ship.Load{L: l[128:]})
	spoil(t, d, v, 12, greatest)
	takes(t, "behind bad needles", v, greatest, 64, ship.Load{Bad: 1})
}

// What stands at a blob's place is whole, but another needle.
func TestTakeOfAnotherNeedleThere(t *testing.T) {
	for what, n := range map[string]api.Needle{
		"another key":    {Key: 8, Cookie: 107, Data: sample.Bytes(5)},
		"another cookie": {Key: 7, Cookie: 108, Data: sample.Bytes(5)},
		"a deletion":     dead(7),
		"a shorter one":  blob(7, 4),
		"a longer one":   blob(7, 8),
	} {
		d, v := begun(t, blob(7, 5))
		b := append(sure(d.Read("v3.1", 0, 16)), sure(needle.Put(n))...)
		must(t, d.Cut("v3.1", 0), d.Append("v3.1", append(b, sure(needle.Put(blob(9, 9)))...)))
		takes(t, "with "+what+" in its place", v, 0, 64, ship.Load{Bad: 1})
	}
}

// A file that is cut at each place: what stands ahead of it is taken.
func TestTakeOfACutFile(t *testing.T) {
	laid := []api.Needle{blob(9, 5), dead(7), blob(8, 9), blob(6, 0), blob(5, 33)}
	_, v := begun(t, laid...)
	for n := range v.Info().Size + 1 {
		d, v := begun(t, laid...)
		must(t, d.Cut("v3.1", n))
		var bad []uint64
		for _, p := range all(v) {
			if p.Off+32+(p.Len+7)/8*8 > n {
				bad = append(bad, p.Key)
			}
		}
		for most := 1; most <= 6; most++ {
			takes(t, fmt.Sprintf("of a file that is cut to %d bytes", n), v, 0, most, load(laid, 0, most, bad...))
		}
	}
}

// On a disk that is down, or without the file, each blob is bad.
func TestTakeOfADiskThatFails(t *testing.T) {
	each(t, func(kind string, d *disk.Disk, v *vol.Vol, laid []api.Needle) {
		var bad []uint64
		for _, n := range laid {
			bad = append(bad, n.Key)
		}
		asks := func(why string, bad []uint64) {
			t.Helper()
			for _, from := range keysBeside(laid) {
				for _, most := range []int{1, 2, 5, 64} {
					takes(t, kind+why, v, from, most, load(laid, from, most, bad...))
				}
			}
		}
		must(t, d.SyncNames(), d.Arm(0))
		asks(", on a disk that is down", bad)
		must(t, d.Crash(disk.Picks{}))
		asks(", behind the crash", nil)
		must(t, d.Remove(file(v)))
		asks(", without a file", bad)
	})
}

// rub writes over all that a load has, and over the room behind it.
func rub(x ship.Load) {
	for i := range x.L[:cap(x.L)] {
		n := &x.L[:cap(x.L)][i]
		sample.Spoil(n.Data)
		*n = api.Needle{Key: 77, Data: []byte("x")}
	}
}

// What a load has is the caller's: neither the volume's, nor another load's, and
// no needle's bytes are another one's.
func TestTakeTellsTheCallers(t *testing.T) {
	each(t, func(kind string, d *disk.Disk, v *vol.Vol, laid []api.Needle) {
		was := seen(d, v)
		for range 3 {
			one, two := sure(ship.Take(v, 0, 64)), sure(ship.Take(v, 0, 64))
			rub(one)
			took(t, "P13.1: Take "+kind+", behind another one that was rubbed", two, load(laid, 0, 64))
			for i, n := range two.L {
				sample.Spoil(n.Data)
				for j, m := range two.L {
					if j > i && !needle.Same(m, load(laid, 0, 64).L[j]) {
						t.Errorf("P13.1: Take %s: the data of %d is %d's, too", kind, n.Key, m.Key)
					}
				}
			}
			was.still(t, "P13.1: Take "+kind+", rubbed", d, v)
		}
	})
}

// What is taken is what the volume has then.
func TestTakeBetweenWork(t *testing.T) {
	_, v := begun(t, blob(7, 5))
	one := sure(ship.Take(v, 0, 1))
	must(t, v.Put(blob(8, 3)), v.Del(7, 107), v.Put(blob(6, 1)))
	took(t, "P13.1: a load behind a deletion", one, ship.Load{L: []api.Needle{blob(7, 5)}})
	takes(t, "behind puts and a deletion", v, 0, 2, ship.Load{L: []api.Needle{blob(6, 1), dead(7)}, More: true, Next: 8})
	// A next key that has come to be gone is the first one of its load.
	must(t, v.Del(8, 108), v.Put(blob(9, 1)))
	takes(t, "from a key that is gone by now", v, 8, 1, ship.Load{L: []api.Needle{dead(8)}, More: true, Next: 9})
}
