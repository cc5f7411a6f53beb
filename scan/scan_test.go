package scan_test

import (
	"bytes"
	"encoding/binary"
	"errors"
	"fmt"
	"hash/crc32"
	"math"
	"slices"
	"strconv"
	"strings"
	"testing"

	"corncrib/api"
	"corncrib/heads"
	"corncrib/needle"
	"corncrib/sample"
	"corncrib/scan"
)

const name = "v3.12"

var castagnoli = crc32.MakeTable(crc32.Castagnoli)

// whole tells the bytes that a needle should have: it is reckoned otherwise
// than by the program's layers.
func whole(n api.Needle) []byte {
	b := binary.LittleEndian.AppendUint32(nil, 0x4E45454C)
	var flags uint32
	if n.Gone {
		flags = 1
	}
	b = binary.LittleEndian.AppendUint32(b, flags)
	b = binary.LittleEndian.AppendUint64(b, n.Key)
	b = binary.LittleEndian.AppendUint32(b, n.Cookie)
	b = binary.LittleEndian.AppendUint32(b, uint32(len(n.Data)))
	b = binary.LittleEndian.AppendUint32(b, crc32.Checksum(append(bytes.Clone(b), n.Data...), castagnoli))
	b = append(b, 0, 0, 0, 0)
	b = append(b, n.Data...)
	for len(b)%8 != 0 {
		b = append(b, 0)
	}
	return b
}

// super tells the bytes of three numbers and their sum: a superblock's, also of
// numbers that can't be.
func super(magic, volume, gen uint32) []byte {
	b := binary.LittleEndian.AppendUint32(nil, magic)
	b = binary.LittleEndian.AppendUint32(b, volume)
	b = binary.LittleEndian.AppendUint32(b, gen)
	return binary.LittleEndian.AppendUint32(b, crc32.Checksum(b, castagnoli))
}

const superMagic = 0x43524942

// needles are of all kinds, some of them alike.
func needles() []api.Needle {
	return []api.Needle{
		{Key: 7, Cookie: 9, Data: []byte("maize")},
		{Key: 7, Cookie: 9, Gone: true},
		{Key: math.MaxUint64, Cookie: math.MaxUint32, Data: bytes.Repeat([]byte{255}, api.MaxData)},
		{},
		{},
		{Key: 5, Data: make([]byte, 8)},
		{Key: 1 << 63, Cookie: 1, Data: sample.Bytes(41)},
	}
}

// file tells a superblock's bytes and the needles' behind them, where each
// needle stands, and as the last place the end.
func file(list []api.Needle) ([]byte, []int) {
	b := super(superMagic, 3, 12)
	places := []int{len(b)}
	for _, n := range list {
		b = append(b, whole(n)...)
		places = append(places, len(b))
	}
	return b, places
}

// foundAt tells what should be found where needles stand at places.
func foundAt(list []api.Needle, places []int) []scan.Found {
	var found []scan.Found
	for i, n := range list {
		found = append(found, scan.Found{Off: places[i], Size: places[i+1] - places[i], N: n})
	}
	return found
}

// same tells whether the same was found.
func same(a, b []scan.Found) bool {
	return slices.EqualFunc(a, b, func(a, b scan.Found) bool {
		return a.Off == b.Off && a.Size == b.Size && a.N.Key == b.N.Key && a.N.Cookie == b.N.Cookie &&
			a.N.Gone == b.N.Gone && bytes.Equal(a.N.Data, b.N.Data)
	})
}

// told tells of what was found where it is.
func told(found []scan.Found) string {
	var b strings.Builder
	for _, f := range found {
		fmt.Fprintf(&b, "[%d+%d key %d]", f.Off, f.Size, f.N.Key)
	}
	return b.String()
}

// ends asks that All finds these, and ends at the end of the bytes.
func ends(t *testing.T, why string, b []byte, from int, want []scan.Found) {
	t.Helper()
	found, off, e := scan.All(name, b, from)
	if e != nil || off != len(b) || !same(found, want) {
		t.Errorf("P6.1: All from %d, %s: %s, %d, %v; want %s, %d", from, why, told(found), off, e, told(want), len(b))
	}
}

// stops asks that All finds these, and no needle behind them at off.
func stops(t *testing.T, why string, b []byte, from int, want []scan.Found, off int, code api.Code) {
	t.Helper()
	found, end, e := scan.All(name, b, from)
	if end != off || !same(found, want) {
		t.Errorf("P6.1: All from %d, %s: %s, %d; want %s, %d", from, why, told(found), end, told(want), off)
	}
	isAt(t, "P6.1: All, "+why, e, name, off, code)
}

// isAt asks that e is an error of this code at a place, and of no other code.
func isAt(t *testing.T, why string, e error, file string, off int, code api.Code) {
	t.Helper()
	var at *api.At
	if !errors.As(e, &at) || e != error(at) || at.File != file || at.Off != off {
		t.Errorf("%s: %v; want an api.At of %q and %d", why, e, file, off)
		return
	}
	for c := api.ErrArg; c <= api.ErrWait; c++ {
		if errors.Is(e, c) != (c == code) {
			t.Errorf("%s: %v wraps %v; want %v", why, e, at.Err, code)
		}
	}
	if !scan.Torn(e) {
		t.Errorf("P6.2: Torn of %v (%v): false", e, at.Err)
	}
}

func TestAllOfNoBytes(t *testing.T) {
	for _, b := range [][]byte{nil, {}, sample.Bytes(64)[:0]} {
		ends(t, "no bytes", b, 0, nil)
	}
}

func TestAllFromOutside(t *testing.T) {
	good, _ := file(needles())
	for why, b := range map[string][]byte{
		"no bytes": nil, "a byte": {1}, "a file": good, "noughts": make([]byte, 100), "room behind": good[:16],
	} {
		for _, from := range []int{-1, -16, math.MinInt, math.MinInt + len(b), len(b) + 1, len(b) + 16, 1 << 32, math.MaxInt} {
			found, off, e := scan.All(name, b, from)
			if !errors.Is(e, api.ErrArg) || off != 0 || len(found) != 0 {
				t.Errorf("P6.1: All of %s from %d: %s, %d, %v; want %v", why, from, told(found), off, e, api.ErrArg)
			}
			if scan.Torn(e) {
				t.Errorf("P6.2: Torn of All's %v: true", e)
			}
		}
		if _, off, e := scan.All(name, b, len(b)); off != len(b) || e != nil {
			t.Errorf("P6.1: All of %s from its end: %d, %v", why, off, e)
		}
	}
}

func TestAllKnownPlaces(t *testing.T) {
	list := []api.Needle{
		{Key: 7, Cookie: 9, Data: []byte("maize")},
		{Key: 7, Cookie: 9, Gone: true},
		{Key: 8, Cookie: 1, Data: sample.Bytes(4096)},
		{Key: 9},
	}
	b, _ := file(list)
	want := []scan.Found{
		{Off: 16, Size: 40, N: list[0]},
		{Off: 56, Size: 32, N: list[1]},
		{Off: 88, Size: 4128, N: list[2]},
		{Off: 4216, Size: 32, N: list[3]},
	}
	ends(t, "four needles", b, 16, want)
	if _, off, _ := scan.All(name, b, 16); off != 4248 {
		t.Errorf("P6.1: All of four needles ends at %d; want 4248", off)
	}
	// Needles may stand at any place, also where no superblock is ahead.
	ends(t, "a needle alone", whole(list[0]), 0, []scan.Found{{Off: 0, Size: 40, N: list[0]}})
	ends(t, "behind three bytes", append([]byte{1, 2, 3}, whole(list[1])...), 3, []scan.Found{{Off: 3, Size: 32, N: list[1]}})
}

func TestAllFromEachNeedle(t *testing.T) {
	list := needles()
	b, places := file(list)
	want := foundAt(list, places)
	for i, from := range places {
		ends(t, "needle "+strconv.Itoa(i), b, from, want[i:])
	}
}

func TestAllFromTheMiddle(t *testing.T) {
	list := needles()
	b, places := file(list)
	for from := range len(b) {
		// One place that is wrong says enough.
		if slices.Contains(places, from) || t.Failed() {
			continue
		}
		code := api.ErrForm
		if len(b)-from < needle.Head {
			code = api.ErrShort
		}
		stops(t, "the middle of a needle, or the superblock", b, from, nil, from, code)
	}
}

func TestAllFromDataThatIsANeedle(t *testing.T) {
	inner, behind := api.Needle{Key: 5, Data: []byte("corn")}, api.Needle{Key: 6}
	outer := api.Needle{Key: 4, Data: whole(inner)}
	b, _ := file([]api.Needle{outer, behind})
	ends(t, "ahead", b, 16, []scan.Found{{Off: 16, Size: 72, N: outer}, {Off: 88, Size: 32, N: behind}})
	ends(t, "in the data", b, 48, []scan.Found{{Off: 48, Size: 40, N: inner}, {Off: 88, Size: 32, N: behind}})
}

func TestAllOfBytesThatAreCut(t *testing.T) {
	list := needles()
	b, places := file(list)
	want := foundAt(list, places)
	count := 0
	// What stands behind the cut is there still, but isn't b's.
	for end := places[0]; end <= len(b) && !t.Failed(); end++ {
		if count < len(list) && end == places[count+1] {
			count++
		}
		if end == places[count] {
			ends(t, "cut just behind a needle", b[:end], 16, want[:count])
			continue
		}
		stops(t, "cut at "+strconv.Itoa(end), b[:end], 16, want[:count], places[count], api.ErrShort)
	}
	if count != len(list) && !t.Failed() {
		t.Fatalf("the test saw %d needles", count)
	}
}

func TestAllOfOneBitSpoilt(t *testing.T) {
	list := needles()
	good, places := file(list)
	want := foundAt(list, places)
	for i := range list {
		for bit := 8 * places[i]; bit < 8*places[i+1] && !t.Failed(); bit++ {
			b := sample.Turned(good, bit)
			_, _, e := needle.Get(b[places[i]:])
			code, ok := e.(api.Code)
			if !ok {
				t.Fatalf("P6.1: needle.Get with bit %d turned: %v", bit, e)
			}
			why := "needle " + strconv.Itoa(i) + ", bit " + strconv.Itoa(bit) + " turned"
			stops(t, why, b, 16, want[:i], places[i], code)
			if bit%997 == 0 {
				ends(t, why+", but from behind it", b, places[i+1], want[i+1:])
			}
		}
	}
}

func TestAllErrors(t *testing.T) {
	ahead := api.Needle{Key: 7, Data: []byte("maize")}
	long := api.Needle{Key: 7, Data: make([]byte, 4096)}
	turned := func(n api.Needle, at int) []byte { return sample.Turned(whole(n), 8*at) }
	for why, x := range map[string]struct {
		bad  []byte
		code api.Code
	}{
		"a byte":                     {[]byte{0}, api.ErrShort},
		"31 bytes of a needle":       {whole(long)[:31], api.ErrShort},
		"the head alone":             {whole(long)[:32], api.ErrShort},
		"all but the last byte":      {whole(long)[:4127], api.ErrShort},
		"31 noughts":                 {make([]byte, 31), api.ErrShort},
		"32 noughts":                 {make([]byte, 32), api.ErrForm},
		"many noughts":               {make([]byte, 5000), api.ErrForm},
		"a superblock and a needle":  {append(super(superMagic, 3, 12), whole(long)...), api.ErrForm},
		"a superblock":               {super(superMagic, 3, 12), api.ErrShort},
		"another number ahead":       {turned(long, 0), api.ErrForm},
		"other flags":                {turned(long, 5), api.ErrForm},
		"no noughts in the head":     {turned(long, 28), api.ErrForm},
		"no noughts at the end":      {turned(ahead, 39), api.ErrForm},
		"one that is gone with data": {turned(ahead, 4), api.ErrForm},
		"another key":                {turned(long, 8), api.ErrSum},
		"another cookie":             {turned(long, 16), api.ErrSum},
		"another sum":                {turned(long, 24), api.ErrSum},
		"other data":                 {turned(long, 4127), api.ErrSum},
		"other short data":           {turned(ahead, 32), api.ErrSum},
	} {
		b, places := file([]api.Needle{ahead})
		want := foundAt([]api.Needle{ahead}, places)
		stops(t, why+" last", append(bytes.Clone(b), x.bad...), 16, want, 56, x.code)
		stops(t, why+" alone", append(super(superMagic, 3, 12), x.bad...), 16, nil, 16, x.code)
		stops(t, why+" from 0", x.bad, 0, nil, 0, x.code)
	}
}

// fileNames are what a file may be called, by volumes or otherwise.
var fileNames = []string{"", name, "m3", "v65535.2147483647", "a b/c\n", "\xff\x00", "Körnerfresser", strings.Repeat("v", 5000)}

func TestTheNameThatIsTold(t *testing.T) {
	b, _ := file(needles())
	for _, file := range fileNames {
		found, off, e := scan.All(file, b[:len(b)-1], 16)
		if len(found) != len(needles())-1 || off != len(b)-80 {
			t.Errorf("P6.1: All of %q: %s, %d", file, told(found), off)
		}
		isAt(t, "P6.1: All", e, file, len(b)-80, api.ErrShort)
		_, e = scan.Super(file, b[:15])
		isAt(t, "P6.2: Super", e, file, 0, api.ErrShort)
		if found, _, e := scan.All(file, b, 16); e != nil || len(found) != len(needles()) {
			t.Errorf("P6.1: All of %q: %s, %v", file, told(found), e)
		}
		if s, e := scan.Super(file, b); e != nil || s != (heads.Super{Volume: 3, Gen: 12}) {
			t.Errorf("P6.2: Super of %q: %v, %v", file, s, e)
		}
	}
}

// noSuper asks that Super tells an error at the file's beginning alone.
func noSuper(t *testing.T, why string, b []byte, code api.Code) {
	t.Helper()
	s, e := scan.Super(name, b)
	if s != (heads.Super{}) {
		t.Errorf("P6.2: Super, %s: %v", why, s)
	}
	isAt(t, "P6.2: Super, "+why, e, name, 0, code)
}

func TestSuper(t *testing.T) {
	full, _ := file(needles())
	for _, want := range []heads.Super{{Volume: 1, Gen: 1}, {Volume: 3, Gen: 12}, {Volume: 65535, Gen: math.MaxInt32}} {
		block := super(superMagic, uint32(want.Volume), uint32(want.Gen))
		for why, b := range map[string][]byte{
			"alone": block, "ahead of a nought": append(bytes.Clone(block), 0),
			"ahead of needles":       append(bytes.Clone(block), full[16:]...),
			"ahead of what is none":  append(bytes.Clone(block), sample.Bytes(100)...),
			"ahead of another block": append(bytes.Clone(block), full...),
		} {
			if s, e := scan.Super(name, b); e != nil || s != want {
				t.Errorf("P6.2: Super, %s: %v, %v; want %v", why, s, e, want)
			}
		}
	}
}

func TestSuperErrors(t *testing.T) {
	full, _ := file(needles())
	noSuper(t, "nil", nil, api.ErrShort)
	noSuper(t, "nothing", []byte{}, api.ErrShort)
	for end := range 16 {
		noSuper(t, "cut at "+strconv.Itoa(end), full[:end], api.ErrShort)
	}
	for bit := range 8 * 16 {
		code := api.ErrSum
		if bit < 8*4 {
			code = api.ErrForm
		}
		why := "bit " + strconv.Itoa(bit) + " turned"
		noSuper(t, why, sample.Turned(full, bit), code)
		noSuper(t, why+", alone", sample.Turned(full[:16], bit), code)
	}
	for _, magic := range []uint32{0, math.MaxUint32, 0x4E45454C, 0x4D414E49, 0x43484B50, 0x42495243} {
		noSuper(t, "another number ahead, with a right sum", super(magic, 3, 12), api.ErrForm)
	}
	noSuper(t, "a needle ahead", full[16:], api.ErrForm)
	noSuper(t, "a byte ahead", append([]byte{0}, full...), api.ErrForm)
	noSuper(t, "volume 0", super(superMagic, 0, 12), api.ErrForm)
	noSuper(t, "volume 65536", super(superMagic, 65536, 12), api.ErrForm)
	noSuper(t, "generation 0", super(superMagic, 3, 0), api.ErrForm)
	noSuper(t, "generation 2^31", super(superMagic, 3, 1<<31), api.ErrForm)
}

// wrapped is an error of the tests' that wraps one.
type wrapped struct{ e error }

func (w wrapped) Error() string { return "wrapped" }
func (w wrapped) Unwrap() error { return w.e }

// unlike is an error that can't be held against its like.
type unlike struct {
	wrapped
	_ []int
}

// panicking is an error that can't be asked.
type panicking struct{}

func (panicking) Error() string { panic("no text") }
func (panicking) Unwrap() error { panic("nothing is wrapped") }

// at tells an error at a place.
func at(e error) error { return &api.At{File: name, Off: 16, Err: e} }

// wraps are the ways in which an error may be wrapped.
func wraps(e error) map[string]error {
	return map[string]error{
		"by itself":             e,
		"wrapped":               wrapped{e},
		"by fmt":                fmt.Errorf("open: %w", e),
		"by fmt, with another":  fmt.Errorf("%w: %w", api.ErrNone, e),
		"twice":                 wrapped{fmt.Errorf("open: %w", e)},
		"in what is uncompared": unlike{wrapped: wrapped{e}},
		"joined":                errors.Join(e),
		"joined, first":         errors.Join(e, api.ErrNone),
		"joined, last":          errors.Join(errors.New("other"), api.ErrNone, e),
		"deep":                  deep(e, 1000),
	}
}

// deep wraps an error many times.
func deep(e error, times int) error {
	for range times {
		e = wrapped{e}
	}
	return e
}

var tornCodes = []api.Code{api.ErrShort, api.ErrForm, api.ErrSum}

func TestTorn(t *testing.T) {
	for _, code := range tornCodes {
		for why, e := range map[string]error{
			"a place":                           at(code),
			"a place without a name":            &api.At{Err: code},
			"a place at an end":                 &api.At{Off: math.MinInt, Err: code},
			"a place of what wraps it":          at(wrapped{code}),
			"a place of what joins it":          at(errors.Join(api.ErrNone, code)),
			"a place of a place":                at(at(code)),
			"a place of what wraps a place":     at(wrapped{at(code)}),
			"a place of many":                   at(deep(code, 1000)),
			"a place of what can't be compared": at(unlike{wrapped: wrapped{code}}),
		} {
			for how, e := range wraps(e) {
				if !scan.Torn(e) {
					t.Errorf("P6.2: Torn of %s of %v, %s: false", why, code, how)
				}
			}
		}
	}
}

func TestNotTorn(t *testing.T) {
	var none *api.At
	for why, e := range map[string]error{
		"no error": nil, "ErrArg": api.ErrArg, "another error": errors.New("torn"), "no code": api.Code(0),
		"no place": none, "an empty place": &api.At{}, "a place of no place": at(none), "a place of nothing": at(nil),
		"a place of another error": at(errors.New("torn")), "a place of no code": at(api.Code(0)), "a place of a code of none": at(api.Code(-3)),
		"what wraps nothing": wrapped{}, "an error that panics": panicking{}, "a place of what panics": at(panicking{}),
		"a place of ErrArg, twice": at(at(api.ErrArg)),
	} {
		for how, e := range wraps(e) {
			if scan.Torn(e) {
				t.Errorf("P6.2: Torn of %s, %s: true", why, how)
			}
		}
	}
	for code := api.ErrArg; code <= api.ErrWait; code++ {
		for how, e := range wraps(code) {
			if scan.Torn(e) {
				t.Errorf("P6.2: Torn of a bare %v, %s: true", code, how)
			}
		}
		for how, e := range wraps(at(code)) {
			if scan.Torn(e) != slices.Contains(tornCodes, code) {
				t.Errorf("P6.2: Torn of a place of %v, %s: %v", code, how, !slices.Contains(tornCodes, code))
			}
		}
		// A place beside a bare code isn't a place of it.
		for _, e := range []error{errors.Join(at(api.ErrNone), code), errors.Join(code, at(api.ErrNone)), fmt.Errorf("%w: %w", code, at(api.ErrDown))} {
			if scan.Torn(e) {
				t.Errorf("P6.2: Torn of %v beside a place of another error: true", code)
			}
		}
	}
}

// mixes are many lists of needles, of all lengths and orders.
func mixes() [][]api.Needle {
	var lists [][]api.Needle
	for n := range 40 {
		var list []api.Needle
		for i, x := range sample.Bytes(n) {
			list = append(list, api.Needle{Key: uint64(x), Cookie: uint32(i), Data: sample.Bytes(int(x) * n / 8)})
			if x%3 == 0 {
				list = append(list, api.Needle{Key: uint64(x), Cookie: uint32(i), Gone: true})
			}
		}
		lists = append(lists, list)
	}
	return append(lists, make([]api.Needle, 3000))
}

func TestNeedlesThatWerePutAreFound(t *testing.T) {
	for i, list := range mixes() {
		b, e := heads.PutSuper(heads.Super{Volume: 3, Gen: 12})
		if e != nil {
			t.Fatalf("P6.3: PutSuper: %v", e)
		}
		for _, n := range list {
			put, e := needle.Put(n)
			if e != nil {
				t.Fatalf("P6.3: Put of %d bytes: %v", len(n.Data), e)
			}
			b = append(b, put...)
		}
		_, places := file(list)
		ends(t, "list "+strconv.Itoa(i), b, 16, foundAt(list, places))
	}
}

func TestWhatStandsBehindASpoiltPlaceIsNotFound(t *testing.T) {
	for _, list := range mixes() {
		good, places := file(list)
		want := foundAt(list, places)
		for i, x := range sample.Bytes(min(len(list), 20)) {
			// A bit of the sum, so that it is the sum that isn't right.
			b := sample.Turned(good, 8*(places[i]+24)+int(x)%32)
			found, off, e := scan.All(name, b, 16)
			if off != places[i] || !same(found, want[:i]) || !errors.Is(e, api.ErrSum) {
				t.Errorf("P6.3: All with needle %d of %d spoilt: %s, %d, %v", i, len(list), told(found), off, e)
			}
		}
	}
	// A gap isn't passed, nor is a needle put upon a place of more than its bytes.
	b, places := file(needles())
	more := append(append(bytes.Clone(b), make([]byte, 8)...), whole(api.Needle{Key: 99})...)
	found, off, e := scan.All(name, more, 16)
	if off != len(b) || !same(found, foundAt(needles(), places)) || !errors.Is(e, api.ErrForm) {
		t.Errorf("P6.3: All with a gap: %s, %d, %v", told(found), off, e)
	}
}

func TestWhatIsHandedInStays(t *testing.T) {
	good, _ := file(needles())
	room := append(bytes.Clone(good), sample.Bytes(64)...)
	before := bytes.Clone(room)
	for _, end := range []int{0, 15, 16, 56, 57, len(good) - 1, len(good), len(room)} {
		for _, from := range []int{-1, 0, 16, 17, end, end + 1} {
			found, _, _ := scan.All(name, room[:end], from)
			for _, f := range found {
				sample.Spoil(f.N.Data)
			}
			scan.Super(name, room[:end])
			if !bytes.Equal(room, before) {
				t.Fatalf("P6.1: All of %d bytes from %d changes what is handed in, or shares it", end, from)
			}
		}
	}
}

func TestWhatIsToldIsNew(t *testing.T) {
	b, places := file(needles())
	want := foundAt(needles(), places)
	one, _, _ := scan.All(name, b, 16)
	two, _, _ := scan.All(name, b, 16)
	sample.Spoil(b)
	if !same(one, want) {
		t.Fatalf("P6.1: what All tells is the argument's memory: %s", told(one))
	}
	// No needle's data shares memory with another one's, or with another answer.
	for i := range one {
		if !same(one[i:], want[i:]) {
			t.Fatalf("P6.1: the needles of an answer share memory: %s", told(one))
		}
		sample.Spoil(one[i].N.Data)
	}
	clear(one[:cap(one)])
	if !same(two, want) {
		t.Fatalf("P6.1: what All tells is shared: %s", told(two))
	}
}

func FuzzAll(f *testing.F) {
	good, _ := file(needles()[:2])
	f.Add(good, 16)
	f.Add(good[:50], 16)
	f.Add(good, 0)
	f.Add([]byte{}, -1)
	f.Fuzz(func(t *testing.T, b []byte, from int) {
		found, off, e := scan.All(name, b, from)
		if errors.Is(e, api.ErrArg) {
			if from >= 0 && from <= len(b) || len(found) != 0 || off != 0 {
				t.Errorf("P6.1: All of %d bytes from %d: %s, %d, %v", len(b), from, told(found), off, e)
			}
			return
		}
		place := from
		for _, x := range found {
			n, size, wrong := needle.Get(b[place:])
			if wrong != nil || !same([]scan.Found{x}, []scan.Found{{Off: place, Size: size, N: n}}) {
				t.Errorf("P6.3: All from %d: %s, where needle.Get tells %v, %d, %v", from, told(found), n, size, wrong)
			}
			place += size
		}
		if place != off || (e == nil) != (off == len(b)) || (e != nil) != scan.Torn(e) {
			t.Errorf("P6.1: All from %d: %s, %d, %v", from, told(found), off, e)
		}
		if _, _, wrong := needle.Get(b[off:]); e != nil && (wrong == nil || !errors.Is(e, wrong)) {
			t.Errorf("P6.1: All from %d ends at %d with %v, where needle.Get tells %v", from, off, e, wrong)
		}
	})
}
