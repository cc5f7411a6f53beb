package heads_test

import (
	"bytes"
	"encoding/binary"
	"errors"
	"hash/crc32"
	"math"
	"strconv"
	"testing"

	"corncrib/api"
	"corncrib/heads"
	"corncrib/sample"
)

const (
	superMagic    = 0x43524942
	manifestMagic = 0x4D414E49
)

var castagnoli = crc32.MakeTable(crc32.Castagnoli)

// laid tells the bytes of numbers and their sum, also of numbers that can't be:
// it is reckoned otherwise than by the program's layers.
func laid(numbers ...uint32) []byte {
	var b []byte
	for _, n := range numbers {
		b = binary.LittleEndian.AppendUint32(b, n)
	}
	return binary.LittleEndian.AppendUint32(b, crc32.Checksum(b, castagnoli))
}

// superBytes tells the bytes that a superblock should have.
func superBytes(s heads.Super) []byte {
	return laid(superMagic, uint32(s.Volume), uint32(s.Gen))
}

// manifestBytes tells the bytes that a manifest should have.
func manifestBytes(m heads.Manifest) []byte {
	var sealed uint32
	if m.Sealed {
		sealed = 1
	}
	return laid(manifestMagic, uint32(m.Volume), uint32(m.Gen), uint32(m.Epoch), sealed)
}

// Numbers that may be, and about the edges.
var (
	volumes = []int{1, 2, 3, 255, 256, 257, 0x0201, 32767, 32768, 65534, 65535}
	gens    = []int{1, 2, 12, 255, 256, 65535, 65536, 65537, 1 << 24, 0x06050403, math.MaxInt32 - 1, math.MaxInt32}
	epochs  = append([]int{0}, gens...)
)

// Numbers that may not be, those among them that would be right if they went
// round or were cut to 4 bytes.
var (
	noVolumes = []int{0, -1, -3, -65535, 65536, 65537, 65539, 1 << 17, math.MaxInt32, 1 << 31, 1<<31 + 3, math.MaxUint32, 1 << 32, 1<<32 + 3, math.MaxInt, math.MinInt, math.MinInt + 3}
	noGens    = []int{0, -1, -12, -math.MaxInt32, math.MinInt32, 1 << 31, 1<<31 + 1, math.MaxUint32, 1 << 32, 1<<32 + 12, math.MaxInt, math.MinInt, math.MinInt + 12}
	noEpochs  = append([]int{}, noGens[1:]...)
)

// supers are those that may be.
func supers() []heads.Super {
	var list []heads.Super
	for _, v := range volumes {
		for _, g := range gens {
			list = append(list, heads.Super{Volume: v, Gen: g})
		}
	}
	return list
}

// manifests are those that may be.
func manifests() []heads.Manifest {
	var list []heads.Manifest
	for _, s := range supers() {
		for _, e := range epochs {
			m := heads.Manifest{Volume: s.Volume, Gen: s.Gen, Epoch: e}
			list = append(list, m)
			m.Sealed = true
			list = append(list, m)
		}
	}
	return list
}

// behind is what may stand behind a superblock.
func behind() map[string][]byte {
	return map[string][]byte{
		"a nought": {0}, "255": {255}, "noughts": make([]byte, 8), "much": sample.Bytes(5000),
		"another superblock": superBytes(heads.Super{Volume: 9, Gen: 9}),
		"a manifest":         manifestBytes(heads.Manifest{Volume: 9, Gen: 9}),
	}
}

// noSuper asks that GetSuper answers an error, and nothing beside it.
func noSuper(t *testing.T, why string, b []byte, want error) {
	t.Helper()
	if s, e := heads.GetSuper(b); !errors.Is(e, want) || s != (heads.Super{}) {
		t.Errorf("P4.1: GetSuper, %s: %v, %v; want %v", why, s, e, want)
	}
}

// noManifest asks that GetManifest answers an error, and nothing beside it.
func noManifest(t *testing.T, why string, b []byte, want error) {
	t.Helper()
	if m, e := heads.GetManifest(b); !errors.Is(e, want) || m != (heads.Manifest{}) {
		t.Errorf("P4.1: GetManifest, %s: %v, %v; want %v", why, m, e, want)
	}
}

func TestSizes(t *testing.T) {
	if heads.SuperSize != 16 || heads.ManifestSize != 24 {
		t.Errorf("P4.1: the sizes are %d and %d", heads.SuperSize, heads.ManifestSize)
	}
}

func TestSuperKnownBytes(t *testing.T) {
	for s, want := range map[heads.Super]string{
		{Volume: 3, Gen: 12}:              "BIRC\x03\x00\x00\x00\x0C\x00\x00\x00\xC4\x6E\x70\xD8",
		{Volume: 0x0201, Gen: 0x06050403}: "BIRC\x01\x02\x00\x00\x03\x04\x05\x06\x6F\xAC\x1D\x90",
	} {
		if b, e := heads.PutSuper(s); e != nil || string(b) != want {
			t.Errorf("P4.1: PutSuper(%v): %x, %v; want %x", s, b, e, want)
		}
		if got, e := heads.GetSuper([]byte(want)); e != nil || got != s {
			t.Errorf("P4.1: GetSuper(%x): %v, %v; want %v", want, got, e, s)
		}
	}
}

func TestManifestKnownBytes(t *testing.T) {
	for m, want := range map[heads.Manifest]string{
		{Volume: 3, Gen: 12}: "INAM\x03\x00\x00\x00\x0C\x00\x00\x00\x00\x00\x00\x00\x00\x00\x00\x00\x10\x1A\x99\xB6",
		{Volume: 0x0201, Gen: 0x06050403, Epoch: 0x0A090807, Sealed: true}: "INAM\x01\x02\x00\x00\x03\x04\x05\x06" +
			"\x07\x08\x09\x0A\x01\x00\x00\x00\x48\xA7\x7F\x5E",
	} {
		if b, e := heads.PutManifest(m); e != nil || string(b) != want {
			t.Errorf("P4.1: PutManifest(%v): %x, %v; want %x", m, b, e, want)
		}
		if got, e := heads.GetManifest([]byte(want)); e != nil || got != m {
			t.Errorf("P4.1: GetManifest(%x): %v, %v; want %v", want, got, e, m)
		}
	}
}

func TestPutAsReckonedOtherwise(t *testing.T) {
	for _, s := range supers() {
		if b, e := heads.PutSuper(s); e != nil || !bytes.Equal(b, superBytes(s)) {
			t.Errorf("P4.1: PutSuper(%v): %x, %v; want %x", s, b, e, superBytes(s))
		}
	}
	for _, m := range manifests() {
		if b, e := heads.PutManifest(m); e != nil || !bytes.Equal(b, manifestBytes(m)) {
			t.Errorf("P4.1: PutManifest(%v): %x, %v; want %x", m, b, e, manifestBytes(m))
		}
	}
}

func TestPutSuperOfWhatCannotBe(t *testing.T) {
	refused := func(s heads.Super) {
		if b, e := heads.PutSuper(s); !errors.Is(e, api.ErrArg) || len(b) != 0 {
			t.Errorf("P4.1: PutSuper(%v): %x, %v; want %v", s, b, e, api.ErrArg)
		}
	}
	for _, v := range noVolumes {
		for _, g := range append(gens, noGens...) {
			refused(heads.Super{Volume: v, Gen: g})
		}
	}
	for _, v := range volumes {
		for _, g := range noGens {
			refused(heads.Super{Volume: v, Gen: g})
		}
	}
}

func TestPutManifestOfWhatCannotBe(t *testing.T) {
	refused := func(m heads.Manifest) {
		for _, m.Sealed = range []bool{false, true} {
			if b, e := heads.PutManifest(m); !errors.Is(e, api.ErrArg) || len(b) != 0 {
				t.Errorf("P4.1: PutManifest(%v): %x, %v; want %v", m, b, e, api.ErrArg)
			}
		}
	}
	for _, v := range noVolumes {
		refused(heads.Manifest{Volume: v, Gen: 1})
		refused(heads.Manifest{Volume: v, Gen: math.MaxInt32, Epoch: math.MaxInt32})
	}
	for _, g := range noGens {
		refused(heads.Manifest{Volume: 1, Gen: g})
		refused(heads.Manifest{Volume: 65535, Gen: g, Epoch: math.MaxInt32})
	}
	for _, e := range noEpochs {
		refused(heads.Manifest{Volume: 1, Gen: 1, Epoch: e})
		refused(heads.Manifest{Volume: 65535, Gen: math.MaxInt32, Epoch: e})
		refused(heads.Manifest{Epoch: e})
	}
	refused(heads.Manifest{})
}

func TestGetSuper(t *testing.T) {
	for _, want := range supers() {
		if s, e := heads.GetSuper(superBytes(want)); e != nil || s != want {
			t.Errorf("P4.1: GetSuper of %v: %v, %v", want, s, e)
		}
	}
}

func TestGetSuperLooksAtTheBeginningAlone(t *testing.T) {
	want := heads.Super{Volume: 3, Gen: 12}
	for name, more := range behind() {
		if s, e := heads.GetSuper(append(superBytes(want), more...)); e != nil || s != want {
			t.Errorf("P4.1: GetSuper with %s behind: %v, %v", name, s, e)
		}
		// Nor does what stands behind mend what is wrong.
		b := superBytes(want)
		b[15]++
		noSuper(t, "a wrong sum, and "+name+" behind", append(b, more...), api.ErrSum)
		b = laid(superMagic, 0, 12)
		noSuper(t, "volume 0, and "+name+" behind", append(b, more...), api.ErrForm)
		b = laid(superMagic+1, 3, 12)
		noSuper(t, "another number ahead, and "+name+" behind", append(b, more...), api.ErrForm)
	}
	noSuper(t, "a superblock behind a byte", append([]byte{0}, superBytes(want)...), api.ErrForm)
}

func TestGetManifest(t *testing.T) {
	for _, want := range manifests() {
		if m, e := heads.GetManifest(manifestBytes(want)); e != nil || m != want {
			t.Errorf("P4.1: GetManifest of %v: %v, %v", want, m, e)
		}
	}
}

func TestGetShort(t *testing.T) {
	noSuper(t, "nil", nil, api.ErrShort)
	noSuper(t, "nothing", []byte{}, api.ErrShort)
	noManifest(t, "nil", nil, api.ErrShort)
	noManifest(t, "nothing", []byte{}, api.ErrShort)
	// Right bytes behind the end aren't looked at.
	s, m := superBytes(heads.Super{Volume: 3, Gen: 12}), manifestBytes(heads.Manifest{Volume: 3, Gen: 12, Sealed: true})
	for end := range 24 {
		if end < 16 {
			noSuper(t, "cut off", s[:end], api.ErrShort)
		}
		noManifest(t, "cut off", m[:end], api.ErrShort)
	}
}

func TestGetManifestLonger(t *testing.T) {
	good := manifestBytes(heads.Manifest{Volume: 3, Gen: 12, Epoch: 7})
	for name, more := range behind() {
		noManifest(t, name+" behind", append(bytes.Clone(good), more...), api.ErrForm)
	}
	noManifest(t, "twice", append(bytes.Clone(good), good...), api.ErrForm)
	noManifest(t, "behind a byte", append([]byte{0}, good...), api.ErrForm)
}

func TestGetOfTheOther(t *testing.T) {
	s, m := superBytes(heads.Super{Volume: 3, Gen: 12}), manifestBytes(heads.Manifest{Volume: 3, Gen: 12})
	noSuper(t, "a manifest", m, api.ErrForm)
	noSuper(t, "a manifest's number ahead", laid(manifestMagic, 3, 12), api.ErrForm)
	noManifest(t, "a superblock", s, api.ErrShort)
	noManifest(t, "a superblock and 8 bytes", append(s, make([]byte, 8)...), api.ErrForm)
	noManifest(t, "a superblock's number ahead", laid(superMagic, 3, 12, 0, 0), api.ErrForm)
}

func TestGetAnotherNumberAhead(t *testing.T) {
	others := []uint32{0, math.MaxUint32, 0x42495243, 0x494E414D, 0x4E45454C}
	for i := range 32 {
		others = append(others, superMagic^1<<i, manifestMagic^1<<i)
	}
	for _, n := range others {
		why := "the number ahead is " + strconv.FormatUint(uint64(n), 16)
		noSuper(t, why, laid(n, 3, 12), api.ErrForm)
		noManifest(t, why, laid(n, 3, 12, 7, 1), api.ErrForm)
	}
}

func TestGetSum(t *testing.T) {
	for _, s := range supers() {
		good := superBytes(s)
		for bit := 8 * 4; bit < 8*16; bit++ {
			noSuper(t, "bit "+strconv.Itoa(bit)+" turned", sample.Turned(good, bit), api.ErrSum)
		}
	}
	for i, m := range manifests() {
		if i%41 > 1 {
			continue
		}
		good := manifestBytes(m)
		for bit := 8 * 4; bit < 8*24; bit++ {
			noManifest(t, "bit "+strconv.Itoa(bit)+" turned", sample.Turned(good, bit), api.ErrSum)
		}
	}
}

func TestGetSumsThatAreReckonedOtherwise(t *testing.T) {
	s, m := superBytes(heads.Super{Volume: 3, Gen: 12}), manifestBytes(heads.Manifest{Volume: 3, Gen: 12, Epoch: 7})
	for _, good := range [][]byte{s, m} {
		end := len(good) - 4
		for why, sum := range map[string]uint32{
			"of the numbers alone":     crc32.Checksum(good[4:end], castagnoli),
			"of all but the last":      crc32.Checksum(good[:end-4], castagnoli),
			"with noughts for the sum": crc32.Checksum(append(bytes.Clone(good[:end]), 0, 0, 0, 0), castagnoli),
			"of another kind":          crc32.ChecksumIEEE(good[:end]),
			"with its bits turned":     ^crc32.Checksum(good[:end], castagnoli),
			"nought":                   0,
		} {
			b := bytes.Clone(good)
			binary.LittleEndian.PutUint32(b[end:], sum)
			if len(b) == heads.SuperSize {
				noSuper(t, "the sum "+why, b, api.ErrSum)
			} else {
				noManifest(t, "the sum "+why, b, api.ErrSum)
			}
		}
	}
}

// spoilt are numbers that can't be, each with a right sum, for a superblock the
// first three, for a manifest all.
func spoilt() (supers, manifests map[string][]uint32) {
	supers, manifests = map[string][]uint32{}, map[string][]uint32{}
	for _, n := range []uint32{0, 65536, 65537, 65539, 1 << 17, 1 << 24, math.MaxInt32, 1 << 31, 1<<31 + 3, math.MaxUint32} {
		why := "volume " + strconv.Itoa(int(n))
		supers[why] = []uint32{superMagic, n, 12}
		manifests[why] = []uint32{manifestMagic, n, 12, 7, 1}
	}
	for _, n := range []uint32{0, 1 << 31, 1<<31 + 1, 1<<31 + 12, math.MaxUint32} {
		why := "generation " + strconv.Itoa(int(n))
		supers[why] = []uint32{superMagic, 3, n}
		manifests[why] = []uint32{manifestMagic, 3, n, 7, 1}
	}
	for _, n := range []uint32{1 << 31, 1<<31 + 1, 1<<31 + 7, math.MaxUint32} {
		manifests["epoch "+strconv.Itoa(int(n))] = []uint32{manifestMagic, 3, 12, n, 0}
	}
	for _, n := range []uint32{2, 3, 255, 256, 257, 1 << 16, 1<<16 + 1, math.MaxInt32, 1 << 31, 1<<31 + 1, math.MaxUint32} {
		manifests["sealed "+strconv.Itoa(int(n))] = []uint32{manifestMagic, 3, 12, 7, n}
	}
	supers["all noughts"] = []uint32{superMagic, 0, 0}
	manifests["all noughts"] = []uint32{manifestMagic, 0, 0, 0, 0}
	supers["all too great"] = []uint32{superMagic, math.MaxUint32, math.MaxUint32}
	manifests["all too great"] = []uint32{manifestMagic, math.MaxUint32, math.MaxUint32, math.MaxUint32, math.MaxUint32}
	return supers, manifests
}

func TestGetOfNumbersThatCannotBe(t *testing.T) {
	supers, manifests := spoilt()
	for why, n := range supers {
		noSuper(t, why, laid(n...), api.ErrForm)
	}
	for why, n := range manifests {
		noManifest(t, why, laid(n...), api.ErrForm)
	}
}

func TestTheFirstErrorIsTold(t *testing.T) {
	supers, manifests := spoilt()
	for why, n := range supers {
		b := laid(n...)
		noSuper(t, why+", and cut off", b[:15], api.ErrShort)
		b[12]++
		noSuper(t, why+", and a wrong sum", b, api.ErrSum)
		noSuper(t, why+", and a wrong sum, and cut off", b[:15], api.ErrShort)
		b[0]++
		noSuper(t, why+", another number ahead, and a wrong sum", b, api.ErrForm)
		noSuper(t, why+", another number ahead, and cut off", b[:15], api.ErrShort)
	}
	for why, n := range manifests {
		b := laid(n...)
		noManifest(t, why+", and cut off", b[:23], api.ErrShort)
		b[20]++
		noManifest(t, why+", and a wrong sum", b, api.ErrSum)
		noManifest(t, why+", and a wrong sum, and cut off", b[:23], api.ErrShort)
		noManifest(t, why+", and a wrong sum, and longer", append(bytes.Clone(b), 0), api.ErrForm)
		b[0]++
		noManifest(t, why+", another number ahead, and a wrong sum", b, api.ErrForm)
		noManifest(t, why+", another number ahead, and cut off", b[:23], api.ErrShort)
		noManifest(t, why+", another number ahead, and longer", append(bytes.Clone(b), 0), api.ErrForm)
	}
	for n := range 40 {
		want := api.ErrForm
		if n < 16 {
			want = api.ErrShort
		}
		noSuper(t, "noughts alone", make([]byte, n), want)
		noSuper(t, "255 alone", bytes.Repeat([]byte{255}, n), want)
		if n < 24 {
			want = api.ErrShort
		}
		noManifest(t, "noughts alone", make([]byte, n), want)
		noManifest(t, "255 alone", bytes.Repeat([]byte{255}, n), want)
	}
}

func TestNames(t *testing.T) {
	const least, most = "-9223372036854775808", "9223372036854775807"
	for _, x := range []struct {
		volume, gen                   int
		data, check, manifest, shadow string
	}{
		{3, 12, "v3.12", "c3.12", "m3", "m3.t"},
		{1, 1, "v1.1", "c1.1", "m1", "m1.t"},
		{0, 0, "v0.0", "c0.0", "m0", "m0.t"},
		{7, 0, "v7.0", "c7.0", "m7", "m7.t"},
		{10, 100, "v10.100", "c10.100", "m10", "m10.t"},
		{65535, math.MaxInt32, "v65535.2147483647", "c65535.2147483647", "m65535", "m65535.t"},
		{65536, 1 << 31, "v65536.2147483648", "c65536.2147483648", "m65536", "m65536.t"},
		{-1, 5, "v-1.5", "c-1.5", "m-1", "m-1.t"},
		{5, -1, "v5.-1", "c5.-1", "m5", "m5.t"},
		{-10, -200, "v-10.-200", "c-10.-200", "m-10", "m-10.t"},
		{math.MinInt, 1, "v" + least + ".1", "c" + least + ".1", "m" + least, "m" + least + ".t"},
		{1, math.MinInt, "v1." + least, "c1." + least, "m1", "m1.t"},
		{math.MinInt, math.MinInt, "v" + least + "." + least, "c" + least + "." + least, "m" + least, "m" + least + ".t"},
		{math.MaxInt, math.MaxInt, "v" + most + "." + most, "c" + most + "." + most, "m" + most, "m" + most + ".t"},
	} {
		data, check, manifest, shadow := heads.Names(x.volume, x.gen)
		if data != x.data || check != x.check || manifest != x.manifest || shadow != x.shadow {
			t.Errorf("P4.2: Names(%d, %d): %q, %q, %q, %q", x.volume, x.gen, data, check, manifest, shadow)
		}
	}
}

func TestNamesAreApart(t *testing.T) {
	seen := map[string]int{}
	for volume := -12; volume <= 112; volume++ {
		_, _, manifest, shadow := heads.Names(volume, 0)
		seen[manifest]++
		seen[shadow]++
		for gen := -12; gen <= 112; gen++ {
			data, check, m, s := heads.Names(volume, gen)
			seen[data]++
			seen[check]++
			if m != manifest || s != shadow {
				t.Errorf("P4.2: Names(%d, %d): %q, %q; of generation 0: %q, %q", volume, gen, m, s, manifest, shadow)
			}
		}
	}
	for name, times := range seen {
		if times != 1 || len(name) > api.MaxName {
			t.Errorf("P4.2: the name %q comes %d times", name, times)
		}
	}
}

func TestWhatIsPutIsGot(t *testing.T) {
	for _, want := range supers() {
		b, e := heads.PutSuper(want)
		if e != nil || len(b) != heads.SuperSize {
			t.Fatalf("P4.3: PutSuper(%v): %x, %v", want, b, e)
		}
		if s, e := heads.GetSuper(b); e != nil || s != want {
			t.Errorf("P4.3: GetSuper of PutSuper(%v): %v, %v", want, s, e)
		}
		if s, e := heads.GetSuper(append(b, b...)); e != nil || s != want {
			t.Errorf("P4.3: GetSuper of PutSuper(%v) twice: %v, %v", want, s, e)
		}
	}
	for _, want := range manifests() {
		b, e := heads.PutManifest(want)
		if e != nil || len(b) != heads.ManifestSize {
			t.Fatalf("P4.3: PutManifest(%v): %x, %v", want, b, e)
		}
		if m, e := heads.GetManifest(b); e != nil || m != want {
			t.Errorf("P4.3: GetManifest of PutManifest(%v): %v, %v", want, m, e)
		}
	}
}

func TestPutTellsNewMemory(t *testing.T) {
	s, m := heads.Super{Volume: 3, Gen: 12}, heads.Manifest{Volume: 3, Gen: 12, Sealed: true}
	for range 3 {
		a, _ := heads.PutSuper(s)
		b, _ := heads.PutManifest(m)
		if !bytes.Equal(a, superBytes(s)) || !bytes.Equal(b, manifestBytes(m)) {
			t.Fatalf("P4.1: what is told is shared: %x, %x", a, b)
		}
		sample.Spoil(a)
		if !bytes.Equal(b, manifestBytes(m)) {
			t.Errorf("P4.1: a manifest shares memory with a superblock")
		}
		sample.Spoil(b)
	}
}

func TestGetLeavesWhatIsHandedIn(t *testing.T) {
	s, m := superBytes(heads.Super{Volume: 3, Gen: 12}), manifestBytes(heads.Manifest{Volume: 3, Gen: 12})
	for _, good := range [][]byte{s, m} {
		room := append(bytes.Clone(good), sample.Bytes(24)...)
		before := bytes.Clone(room)
		for end := range len(room) + 1 {
			heads.GetSuper(room[:end])
			heads.GetManifest(room[:end])
			if !bytes.Equal(room, before) {
				t.Fatalf("P4.1: Get of %d bytes changes what is handed in, or the room behind", end)
			}
		}
	}
}

func TestErrorsAreToldApart(t *testing.T) {
	_, arg := heads.PutSuper(heads.Super{})
	_, short := heads.GetSuper(nil)
	_, form := heads.GetManifest(make([]byte, 25))
	_, sum := heads.GetSuper(sample.Turned(superBytes(heads.Super{Volume: 3, Gen: 12}), 100))
	told := map[api.Code]error{api.ErrArg: arg, api.ErrShort: short, api.ErrForm: form, api.ErrSum: sum}
	for want, e := range told {
		for code := api.ErrArg; code <= api.ErrWait; code++ {
			if errors.Is(e, code) != (code == want) {
				t.Errorf("P4.1: %v: is it %v?", e, code)
			}
		}
	}
}

func FuzzGet(f *testing.F) {
	f.Add(superBytes(heads.Super{Volume: 3, Gen: 12}))
	f.Add(manifestBytes(heads.Manifest{Volume: 3, Gen: 12, Epoch: 7, Sealed: true}))
	f.Add([]byte{})
	f.Fuzz(func(t *testing.T, b []byte) {
		// What is got has one form only: it is put as the same bytes.
		if s, e := heads.GetSuper(b); e == nil {
			if put, e := heads.PutSuper(s); e != nil || !bytes.HasPrefix(b, put) {
				t.Errorf("P4.3: GetSuper(%x): %v", b, s)
			}
		}
		if m, e := heads.GetManifest(b); e == nil {
			if put, e := heads.PutManifest(m); e != nil || !bytes.Equal(b, put) {
				t.Errorf("P4.3: GetManifest(%x): %v", b, m)
			}
		}
	})
}
