package check_test

import (
	"bytes"
	"encoding/binary"
	"errors"
	"hash/crc32"
	"math"
	"slices"
	"strconv"
	"testing"

	"corncrib/api"
	"corncrib/check"
	"corncrib/sample"
)

const magic = 0x43484B50

var castagnoli = crc32.MakeTable(crc32.Castagnoli)

// row is a position as numbers, also as ones that can't be.
type row struct {
	key                   uint64
	off, len, cookie, bit uint32
}

// unsummed tells the bytes of numbers and rows, without a sum. It is reckoned
// otherwise than by the program's layers.
func unsummed(front []uint32, rows ...row) []byte {
	var b []byte
	for _, n := range front {
		b = binary.LittleEndian.AppendUint32(b, n)
	}
	for _, r := range rows {
		b = binary.LittleEndian.AppendUint64(b, r.key)
		for _, n := range []uint32{r.off, r.len, r.cookie, r.bit} {
			b = binary.LittleEndian.AppendUint32(b, n)
		}
	}
	return b
}

// summed tells b, and the sum of it behind.
func summed(b []byte) []byte {
	return binary.LittleEndian.AppendUint32(bytes.Clone(b), crc32.Checksum(b, castagnoli))
}

// laid tells the bytes of numbers and rows with their sum, also of such as can't be.
func laid(front []uint32, rows ...row) []byte {
	return summed(unsummed(front, rows...))
}

// bytesOf tells the bytes that a checkpoint should have.
func bytesOf(c check.Check) []byte {
	var rows []row
	for _, p := range c.L {
		r := row{key: p.Key, off: uint32(p.Off), len: uint32(p.Len), cookie: p.Cookie}
		if p.Gone {
			r.bit = 1
		}
		rows = append(rows, r)
	}
	return laid([]uint32{magic, uint32(c.Volume), uint32(c.Gen), uint32(c.Upto), uint32(len(c.L))}, rows...)
}

// same tells whether two checkpoints are alike, a list without items nil or not.
func same(a, b check.Check) bool {
	return a.Volume == b.Volume && a.Gen == b.Gen && a.Upto == b.Upto && slices.Equal(a.L, b.L)
}

// told tells a checkpoint as text, its list only as far as it is short.
func told(c check.Check) string {
	text := strconv.Itoa(c.Volume) + "." + strconv.Itoa(c.Gen) + " up to " + strconv.Itoa(c.Upto) + ":"
	for i, p := range c.L {
		if i == 4 {
			return text + " .. of " + strconv.Itoa(len(c.L))
		}
		text += " {" + strconv.FormatUint(p.Key, 10) + " at " + strconv.Itoa(p.Off) + " of " + strconv.Itoa(p.Len) +
			", " + strconv.Itoa(int(p.Cookie)) + ", " + strconv.FormatBool(p.Gone) + "}"
	}
	return text
}

// many tells n positions that may be, no two alike in more than they need.
func many(n int) []api.Pos {
	var list []api.Pos
	for i := range n {
		p := api.Pos{Key: uint64(i)*uint64(i)*0x1000001 + 5, Off: (i * 40961) % (api.MaxFile + 1), Cookie: uint32(i) * 0x9E3779B9}
		if i%3 == 1 {
			p.Gone = true
		} else {
			p.Len = i % (api.MaxData + 1)
		}
		list = append(list, p)
	}
	return list
}

// plain is a checkpoint that may be, to be spoilt in one thing or another.
func plain() check.Check {
	return check.Check{Volume: 3, Gen: 12, Upto: 4096, L: []api.Pos{
		{Key: 5, Off: 16, Len: 7, Cookie: 9},
		{Key: 6, Off: 56, Cookie: 10, Gone: true},
		{Key: 1 << 40, Off: 88, Len: 4000, Cookie: math.MaxUint32},
	}}
}

// Numbers that may be, and about the edges.
var (
	volumes = []int{1, 2, 3, 255, 256, 257, 0x0201, 32768, 65534, 65535}
	gens    = []int{1, 2, 12, 255, 256, 65535, 65536, 65537, 1 << 24, 0x06050403, math.MaxInt32 - 1, math.MaxInt32}
	offs    = []int{0, 1, 15, 16, 255, 256, 0x0A0908, 65535, 65536, 1<<24 - 1, 1 << 24}
	lens    = []int{0, 1, 2, 255, 256, 0x0E0D, 4095, 4096}
	keys    = []uint64{0, 1, 255, 256, math.MaxUint32, 1 << 32, 0x0807060504030201, math.MaxInt64, 1 << 63, math.MaxUint64 - 1, math.MaxUint64}
	cookies = []uint32{0, 1, 256, 0x04030201, math.MaxInt32, 1 << 31, math.MaxUint32}
)

// Numbers that may not be, those among them that would be right if they went
// round or were cut to 4 bytes.
var (
	noVolumes = []int{0, -1, -3, -65535, 65536, 65537, 65539, 1 << 17, math.MaxInt32, 1 << 31, 1<<31 + 3, math.MaxUint32, 1 << 32, 1<<32 + 3, math.MaxInt, math.MinInt, math.MinInt + 3}
	noGens    = []int{0, -1, -12, -math.MaxInt32, math.MinInt32, 1 << 31, 1<<31 + 1, math.MaxUint32, 1 << 32, 1<<32 + 12, math.MaxInt, math.MinInt, math.MinInt + 12}
	noOffs    = []int{-1, -16, -1 << 24, math.MinInt32, 1<<24 + 1, 1<<24 + 16, 1 << 25, math.MaxInt32, 1 << 31, 1<<31 + 16, math.MaxUint32, 1 << 32, 1<<32 + 16, math.MaxInt, math.MinInt, math.MinInt + 16}
	noLens    = []int{-1, -7, -4096, math.MinInt32, 4097, 4098, 8192, 1 << 16, 1 << 24, math.MaxInt32, 1 << 31, 1<<31 + 7, math.MaxUint32, 1 << 32, 1<<32 + 7, math.MaxInt, math.MinInt, math.MinInt + 7}
)

// rightOnes are checkpoints that may be.
func rightOnes() []check.Check {
	list := []check.Check{plain()}
	for _, v := range volumes {
		for _, g := range gens {
			for _, u := range offs {
				list = append(list, check.Check{Volume: v, Gen: g, Upto: u})
			}
		}
	}
	for _, k := range keys {
		for i, c := range cookies {
			for _, off := range offs {
				p := api.Pos{Key: k, Off: off, Len: lens[(i+off)%len(lens)], Cookie: c}
				list = append(list, check.Check{Volume: 1, Gen: 1, L: []api.Pos{p}})
				p.Len, p.Gone = 0, true
				list = append(list, check.Check{Volume: 65535, Gen: math.MaxInt32, Upto: 1 << 24, L: []api.Pos{p}})
			}
		}
	}
	for _, n := range lens {
		list = append(list, check.Check{Volume: 1, Gen: 1, L: []api.Pos{{Len: n}}})
	}
	var all []api.Pos
	for _, k := range keys {
		all = append(all, api.Pos{Key: k})
	}
	list = append(list, check.Check{Volume: 1, Gen: 1, L: all}, check.Check{Volume: 1, Gen: 1, L: []api.Pos{}})
	for _, n := range []int{2, 3, 255, 256, 257, 4095, 4096} {
		list = append(list, check.Check{Volume: 9, Gen: 9, Upto: 99, L: many(n)})
	}
	return list
}

// wrongOnes are checkpoints each of which has one thing that can't be.
func wrongOnes() map[string]check.Check {
	list := map[string]check.Check{"nothing": {}}
	for _, v := range noVolumes {
		c := plain()
		c.Volume = v
		list["volume "+strconv.Itoa(v)] = c
	}
	for _, g := range noGens {
		c := plain()
		c.Gen = g
		list["generation "+strconv.Itoa(g)] = c
	}
	for _, u := range noOffs {
		c := plain()
		c.Upto = u
		list["Upto "+strconv.Itoa(u)] = c
	}
	for i := range plain().L {
		at := " of position " + strconv.Itoa(i)
		for _, off := range noOffs {
			c := plain()
			c.L[i].Off = off
			list["Off "+strconv.Itoa(off)+at] = c
		}
		for _, n := range noLens {
			c := plain()
			c.L[i].Len = n
			list["Len "+strconv.Itoa(n)+at] = c
			c = plain()
			c.L[i].Gone, c.L[i].Len = true, n
			list["gone, and Len "+strconv.Itoa(n)+at] = c
		}
		for _, n := range lens[1:] {
			c := plain()
			c.L[i].Gone, c.L[i].Len = true, n
			list["gone, and Len "+strconv.Itoa(n)+at] = c
		}
	}
	for why, l := range misplaced() {
		c := plain()
		c.L = l
		list[why] = c
	}
	return list
}

// misplaced are lists whose keys are out of order, or twice.
func misplaced() map[string][]api.Pos {
	list := map[string][]api.Pos{
		"the key 0 twice":            {{Key: 0}, {Key: 0}},
		"a key twice":                {{Key: 7}, {Key: 7}},
		"a key twice, once gone":     {{Key: 7, Off: 16, Len: 1}, {Key: 7, Off: 56, Gone: true}},
		"the greatest key twice":     {{Key: math.MaxUint64}, {Key: math.MaxUint64}},
		"a key twice, at the end":    {{Key: 1}, {Key: 2}, {Key: 3}, {Key: 3}},
		"two keys out of order":      {{Key: 2}, {Key: 1}},
		"the last one ahead":         {{Key: 1}, {Key: 3}, {Key: 2}},
		"the first one behind":       {{Key: 2}, {Key: 3}, {Key: 1}},
		"a key twice, one between":   {{Key: 1}, {Key: 2}, {Key: 1}},
		"out of order by high bits":  {{Key: 1 << 63}, {Key: 1}},
		"out of order by 4 bytes":    {{Key: 1 << 32}, {Key: 1}},
		"the greatest ahead of 0":    {{Key: math.MaxUint64}, {Key: 0}},
		"in order, were they signed": {{Key: math.MaxUint64}, {Key: 0}, {Key: 1}},
		"from the greatest down":     {{Key: 3}, {Key: 2}, {Key: 1}, {Key: 0}},
	}
	l := many(api.MaxItems)
	l[4095].Key = l[4094].Key
	list["4096 positions, the last key twice"] = l
	l = many(api.MaxItems)
	l[2000], l[2001] = l[2001], l[2000]
	list["4096 positions, two of them changed about"] = l
	return list
}

// refused asks that Right and Put answer an error, and Put nothing beside it.
func refused(t *testing.T, why string, c check.Check, want error) {
	t.Helper()
	if e := check.Right(c); !errors.Is(e, want) {
		t.Errorf("P5.1: Right, %s: %v; want %v", why, e, want)
	}
	if b, e := check.Put(c); !errors.Is(e, want) || len(b) != 0 {
		t.Errorf("P5.1: Put, %s: %d bytes, %v; want %v", why, len(b), e, want)
	}
}

// none asks that Get answers an error, and nothing beside it.
func none(t *testing.T, why string, b []byte, want error) {
	t.Helper()
	if c, e := check.Get(b); !errors.Is(e, want) || !same(c, check.Check{}) {
		t.Errorf("P5.2: Get, %s: %s, %v; want %v", why, told(c), e, want)
	}
}

func TestKnownBytes(t *testing.T) {
	for want, c := range map[string]check.Check{
		"PKHC\x03\x00\x00\x00\x0C\x00\x00\x00\x10\x00\x00\x00\x00\x00\x00\x00\x00\xFE\x33\xD3": {Volume: 3, Gen: 12, Upto: 16},
		"PKHC\x01\x02\x00\x00\x03\x04\x05\x06\x08\x09\x0A\x00\x02\x00\x00\x00" +
			"\x11\x12\x13\x14\x15\x16\x17\x18\x1A\x1B\x1C\x00\x1D\x0E\x00\x00\x1F\x21\x22\x23\x00\x00\x00\x00" +
			"\xF8\xF9\xFA\xFB\xFC\xFD\xFE\xFF\x25\x26\x00\x00\x00\x00\x00\x00\x27\x28\x29\x2A\x01\x00\x00\x00" +
			"\x10\x93\xC3\xF3": {Volume: 0x0201, Gen: 0x06050403, Upto: 0x0A0908, L: []api.Pos{
			{Key: 0x1817161514131211, Off: 0x1C1B1A, Len: 0x0E1D, Cookie: 0x2322211F},
			{Key: 0xFFFEFDFCFBFAF9F8, Off: 0x2625, Cookie: 0x2A292827, Gone: true},
		}},
	} {
		if b, e := check.Put(c); e != nil || string(b) != want {
			t.Errorf("P5.1: Put(%s): %x, %v; want %x", told(c), b, e, want)
		}
		if got, e := check.Get([]byte(want)); e != nil || !same(got, c) {
			t.Errorf("P5.2: Get(%x): %s, %v; want %s", want, told(got), e, told(c))
		}
	}
}

func TestOfNoPositions(t *testing.T) {
	for _, l := range [][]api.Pos{nil, {}} {
		c := check.Check{Volume: 3, Gen: 12, Upto: 16, L: l}
		b, e := check.Put(c)
		if e != nil || len(b) != 24 {
			t.Errorf("P5.1: Put of no positions: %d bytes, %v; want 24", len(b), e)
		}
		if got, e := check.Get(b); e != nil || !same(got, c) {
			t.Errorf("P5.2: Get of no positions: %s, %v", told(got), e)
		}
	}
}

func TestPutAsReckonedOtherwise(t *testing.T) {
	for _, c := range rightOnes() {
		if e := check.Right(c); e != nil {
			t.Errorf("P5.1: Right(%s): %v", told(c), e)
		}
		b, e := check.Put(c)
		if e != nil || !bytes.Equal(b, bytesOf(c)) {
			t.Errorf("P5.1: Put(%s): %d bytes, %v", told(c), len(b), e)
		}
		if len(b) != 24+24*len(c.L) {
			t.Errorf("P5.1: Put(%s): %d bytes", told(c), len(b))
		}
	}
}

func TestOfWhatCannotBe(t *testing.T) {
	for why, c := range wrongOnes() {
		refused(t, why, c, api.ErrArg)
	}
}

func TestTooMany(t *testing.T) {
	for _, n := range []int{4097, 4098, 5000, 8192, 65537} {
		c := check.Check{Volume: 3, Gen: 12, Upto: 16, L: many(n)}
		refused(t, strconv.Itoa(n)+" positions", c, api.ErrLong)
	}
	// Too many are looked for ahead of all else.
	for why, c := range wrongOnes() {
		c.L = append(c.L, make([]api.Pos, 4097)...)
		refused(t, why+", and too many", c, api.ErrLong)
	}
}

func TestGet(t *testing.T) {
	for _, want := range rightOnes() {
		if c, e := check.Get(bytesOf(want)); e != nil || !same(c, want) {
			t.Errorf("P5.2: Get of %s: %s, %v", told(want), told(c), e)
		}
	}
}

func TestGetShort(t *testing.T) {
	none(t, "nil", nil, api.ErrShort)
	none(t, "nothing", []byte{}, api.ErrShort)
	// Right bytes behind the end aren't looked at.
	for _, c := range []check.Check{{Volume: 3, Gen: 12, Upto: 16}, plain(), {Volume: 3, Gen: 12, L: many(20)}} {
		b := bytesOf(c)
		for end := range b {
			none(t, told(c)+", cut off at "+strconv.Itoa(end), b[:end], api.ErrShort)
		}
	}
	b := bytesOf(check.Check{Volume: 3, Gen: 12, L: many(api.MaxItems)})
	for _, lack := range []int{1, 2, 4, 5, 8, 23, 24, 25, 48, 4096, 24*4096 - 1, 24 * 4096} {
		none(t, "4096 positions, "+strconv.Itoa(lack)+" bytes lack", b[:len(b)-lack], api.ErrShort)
	}
	// A right sum of fewer positions than are said doesn't help.
	none(t, "one position said, none there", laid([]uint32{magic, 3, 12, 16, 1}), api.ErrShort)
	none(t, "4096 said, none there", laid([]uint32{magic, 3, 12, 16, 4096}), api.ErrShort)
	none(t, "two said, one there", laid([]uint32{magic, 3, 12, 16, 2}, row{key: 5}), api.ErrShort)
	none(t, "half a position there", summed(append(unsummed([]uint32{magic, 3, 12, 16, 1}), make([]byte, 12)...)), api.ErrShort)
}

func TestGetLonger(t *testing.T) {
	for _, c := range []check.Check{{Volume: 3, Gen: 12, Upto: 16}, plain(), {Volume: 3, Gen: 12, L: many(api.MaxItems)}} {
		good := bytesOf(c)
		for why, more := range map[string][]byte{
			"a nought": {0}, "255": {255}, "4 noughts": make([]byte, 4), "24 noughts": make([]byte, 24),
			"much": sample.Bytes(5000), "another one": bytesOf(plain()), "its sum again": good[len(good)-4:],
		} {
			none(t, told(c)+", and "+why+" behind", append(bytes.Clone(good), more...), api.ErrForm)
			none(t, told(c)+", and "+why+" behind, with a right sum", summed(append(bytes.Clone(good), more...)), api.ErrForm)
		}
		none(t, told(c)+", behind a byte", append([]byte{0}, good...), api.ErrForm)
	}
	none(t, "none said, one there", laid([]uint32{magic, 3, 12, 16, 0}, row{key: 5}), api.ErrForm)
	none(t, "one said, two there", laid([]uint32{magic, 3, 12, 16, 1}, row{key: 5}, row{key: 6}), api.ErrForm)
	none(t, "one said, one and a half there", summed(append(unsummed([]uint32{magic, 3, 12, 16, 1}, row{key: 5}), make([]byte, 12)...)), api.ErrForm)
}

func TestGetAnotherNumberAhead(t *testing.T) {
	others := []uint32{0, math.MaxUint32, 0x504B4843, 0x43524942, 0x4D414E49, 0x4E45454C}
	for i := range 32 {
		others = append(others, magic^1<<i)
	}
	for _, n := range others {
		why := "the number ahead is " + strconv.FormatUint(uint64(n), 16)
		none(t, why, laid([]uint32{n, 3, 12, 16, 0}), api.ErrForm)
		none(t, why+", one position", laid([]uint32{n, 3, 12, 16, 1}, row{key: 5}), api.ErrForm)
	}
}

func TestGetTooMany(t *testing.T) {
	for _, n := range []uint32{4097, 4098, 8192, 65536, 65537, 1 << 24, math.MaxInt32, 1 << 31, 1<<31 + 1, math.MaxUint32} {
		why := strconv.Itoa(int(n)) + " positions said"
		none(t, why+", none there", laid([]uint32{magic, 3, 12, 16, n}), api.ErrForm)
		none(t, why+", one there", laid([]uint32{magic, 3, 12, 16, n}, row{key: 5}), api.ErrForm)
	}
	for _, n := range []int{4097, 4098} {
		none(t, strconv.Itoa(n)+" positions there", bytesOf(check.Check{Volume: 3, Gen: 12, L: many(n)}), api.ErrForm)
	}
	// 24 times these go round to a few in 32 bits.
	for _, n := range []uint32{1 << 29, 1<<29 + 1, 178956971} {
		none(t, "so many that their bytes go round", laid([]uint32{magic, 3, 12, 16, n}, row{key: 5}), api.ErrForm)
	}
}

func TestGetSum(t *testing.T) {
	for _, c := range []check.Check{{Volume: 3, Gen: 12, Upto: 16}, plain(), {Volume: 3, Gen: 12, L: many(20)}} {
		good := bytesOf(c)
		for bit := 8 * 4; bit < 8*len(good); bit++ {
			// What turns the count tells other errors.
			if bit >= 8*16 && bit < 8*20 {
				continue
			}
			none(t, told(c)+", bit "+strconv.Itoa(bit)+" turned", sample.Turned(good, bit), api.ErrSum)
		}
	}
	good := bytesOf(check.Check{Volume: 3, Gen: 12, L: many(api.MaxItems)})
	for bit := 8 * 20; bit < 8*len(good); bit += 50021 {
		none(t, "4096 positions, bit "+strconv.Itoa(bit)+" turned", sample.Turned(good, bit), api.ErrSum)
	}
	none(t, "4096 positions, the last bit turned", sample.Turned(good, 8*len(good)-1), api.ErrSum)
}

func TestGetSumsThatAreReckonedOtherwise(t *testing.T) {
	for _, c := range []check.Check{{Volume: 3, Gen: 12, Upto: 16}, plain()} {
		good := bytesOf(c)
		end := len(good) - 4
		for why, sum := range map[string]uint32{
			"of all but the number ahead": crc32.Checksum(good[4:end], castagnoli),
			"of the positions alone":      crc32.Checksum(good[20:end], castagnoli),
			"of the first 16 alone":       crc32.Checksum(good[:16], castagnoli),
			"of all but the last":         crc32.Checksum(good[:end-4], castagnoli),
			"with noughts for the sum":    crc32.Checksum(append(bytes.Clone(good[:end]), 0, 0, 0, 0), castagnoli),
			"of another kind":             crc32.ChecksumIEEE(good[:end]),
			"with its bits turned":        ^crc32.Checksum(good[:end], castagnoli),
			"nought":                      0,
		} {
			b := bytes.Clone(good)
			binary.LittleEndian.PutUint32(b[end:], sum)
			none(t, told(c)+", the sum "+why, b, api.ErrSum)
		}
	}
}

// spoilt are bytes without their sum that can't be, though they are as many as
// they say.
func spoilt() map[string][]byte {
	list := map[string][]byte{
		"all noughts":   unsummed([]uint32{magic, 0, 0, 0, 0}),
		"all too great": unsummed([]uint32{magic, math.MaxUint32, math.MaxUint32, math.MaxUint32, 0}),
	}
	spoil := func(why string, n uint32, front [5]uint32, rows ...row) {
		list[why+" "+strconv.Itoa(int(n))+" before "+strconv.Itoa(len(rows))] = unsummed(front[:], rows...)
	}
	one := row{5, 16, 7, 9, 0}
	for _, n := range []uint32{0, 65536, 65537, 65539, 1 << 17, 1 << 24, math.MaxInt32, 1 << 31, 1<<31 + 3, math.MaxUint32} {
		spoil("volume", n, [5]uint32{magic, n, 12, 16, 0})
		spoil("volume", n, [5]uint32{magic, n, 12, 16, 1}, one)
	}
	for _, n := range []uint32{0, 1 << 31, 1<<31 + 1, 1<<31 + 12, math.MaxUint32} {
		spoil("generation", n, [5]uint32{magic, 3, n, 16, 0})
		spoil("generation", n, [5]uint32{magic, 3, n, 16, 1}, one)
	}
	for _, n := range []uint32{1<<24 + 1, 1<<24 + 16, 1 << 25, math.MaxInt32, 1 << 31, 1<<31 + 16, math.MaxUint32} {
		spoil("Upto", n, [5]uint32{magic, 3, 12, n, 0})
		spoil("Upto", n, [5]uint32{magic, 3, 12, n, 1}, one)
		spoil("Off", n, [5]uint32{magic, 3, 12, 16, 1}, row{5, n, 7, 9, 0})
		spoil("Off, gone,", n, [5]uint32{magic, 3, 12, 16, 1}, row{5, n, 0, 9, 1})
		spoil("the second Off", n, [5]uint32{magic, 3, 12, 16, 2}, one, row{6, n, 7, 9, 0})
	}
	for _, n := range []uint32{4097, 4098, 8192, 1 << 16, 1<<16 + 7, math.MaxInt32, 1 << 31, 1<<31 + 7, math.MaxUint32} {
		spoil("Len", n, [5]uint32{magic, 3, 12, 16, 1}, row{5, 16, n, 9, 0})
		spoil("the second Len", n, [5]uint32{magic, 3, 12, 16, 2}, one, row{6, 16, n, 9, 0})
	}
	for _, n := range []uint32{1, 2, 4095, 4096, 4097, 1 << 31, math.MaxUint32} {
		spoil("gone, and Len", n, [5]uint32{magic, 3, 12, 16, 1}, row{5, 16, n, 9, 1})
		spoil("the second one gone, and Len", n, [5]uint32{magic, 3, 12, 16, 2}, one, row{6, 16, n, 9, 1})
	}
	for _, n := range []uint32{2, 3, 255, 256, 257, 1 << 16, 1<<16 + 1, math.MaxInt32, 1 << 31, 1<<31 + 1, math.MaxUint32} {
		spoil("the last number", n, [5]uint32{magic, 3, 12, 16, 1}, row{5, 16, 0, 9, n})
		spoil("the last number, and a Len,", n, [5]uint32{magic, 3, 12, 16, 1}, row{5, 16, 7, 9, n})
		spoil("the second last number", n, [5]uint32{magic, 3, 12, 16, 2}, one, row{6, 16, 0, 9, n})
		spoil("the first last number", n, [5]uint32{magic, 3, 12, 16, 2}, row{5, 16, 0, 9, n}, row{6, 16, 0, 9, 1})
	}
	for why, l := range misplaced() {
		b := bytesOf(check.Check{Volume: 3, Gen: 12, Upto: 16, L: l})
		list[why] = b[:len(b)-4]
	}
	return list
}

func TestGetOfWhatCannotBe(t *testing.T) {
	for why, b := range spoilt() {
		none(t, why, summed(b), api.ErrForm)
	}
}

func TestTheFirstErrorIsTold(t *testing.T) {
	for why, b := range spoilt() {
		b := summed(b)
		end := len(b)
		none(t, why+", and cut off", b[:end-1], api.ErrShort)
		none(t, why+", and longer", append(bytes.Clone(b), 0), api.ErrForm)
		b[end-1]++
		none(t, why+", and a wrong sum", b, api.ErrSum)
		none(t, why+", a wrong sum, and cut off", b[:end-1], api.ErrShort)
		none(t, why+", a wrong sum, and longer", append(bytes.Clone(b), 0), api.ErrForm)
		b[0]++
		none(t, why+", a wrong sum, and another number ahead", b, api.ErrForm)
		none(t, why+", another number ahead, and 23 bytes", b[:23], api.ErrShort)
		want := api.ErrForm
		if end == 24 {
			want = api.ErrShort
		}
		none(t, why+", another number ahead, and cut off", b[:end-1], want)
		none(t, why+", another number ahead, and longer", append(bytes.Clone(b), 0), api.ErrForm)
	}
	for n := range 60 {
		want := api.ErrForm
		if n < 24 {
			want = api.ErrShort
		}
		none(t, "noughts alone", make([]byte, n), want)
		none(t, "255 alone", bytes.Repeat([]byte{255}, n), want)
		// Too many positions come behind the first end, and ahead of the second one.
		b := append(unsummed([]uint32{magic, 3, 12, 16, 4097}), make([]byte, 60)...)
		none(t, "too many positions, and "+strconv.Itoa(n)+" bytes", b[:n], want)
		binary.LittleEndian.PutUint32(b[16:], 4096)
		none(t, "4096 positions, and "+strconv.Itoa(n)+" bytes", b[:n], api.ErrShort)
	}
}

func TestWhatIsPutIsGot(t *testing.T) {
	for _, want := range rightOnes() {
		b, e := check.Put(want)
		if e != nil {
			t.Fatalf("P5.3: Put(%s): %v", told(want), e)
		}
		if c, e := check.Get(b); e != nil || !same(c, want) {
			t.Errorf("P5.3: Get of Put(%s): %s, %v", told(want), told(c), e)
		}
	}
}

func TestWhatIsHandedInStays(t *testing.T) {
	ones := wrongOnes()
	for i, c := range rightOnes() {
		ones["right one "+strconv.Itoa(i)] = c
	}
	for why, c := range ones {
		room := append(slices.Clone(c.L), many(3)...)
		before := slices.Clone(room)
		c.L = room[:len(c.L)]
		check.Right(c)
		b, _ := check.Put(c)
		sample.Spoil(b)
		if !slices.Equal(room, before) {
			t.Errorf("P5.1: Right or Put changes its list, or the room behind: %s", why)
		}
	}
	good := bytesOf(plain())
	room := append(bytes.Clone(good), sample.Bytes(24)...)
	before := bytes.Clone(room)
	for end := range len(room) + 1 {
		check.Get(room[:end])
		if !bytes.Equal(room, before) {
			t.Fatalf("P5.2: Get of %d bytes changes what is handed in, or the room behind", end)
		}
	}
}

func TestWhatIsToldIsNew(t *testing.T) {
	want := bytesOf(plain())
	for range 3 {
		c := plain()
		b, _ := check.Put(c)
		// What was put hangs no more on the list, nor what was got on the bytes.
		clear(c.L)
		if !bytes.Equal(b, want) {
			t.Fatalf("P5.1: what Put tells is shared: %x", b)
		}
		one, _ := check.Get(b)
		two, _ := check.Get(b)
		sample.Spoil(b)
		clear(one.L[:cap(one.L)])
		if !same(two, plain()) {
			t.Fatalf("P5.2: what Get tells is shared: %s", told(two))
		}
	}
}

func TestErrorsAreToldApart(t *testing.T) {
	_, long := check.Put(check.Check{L: make([]api.Pos, 4097)})
	_, short := check.Get(nil)
	_, form := check.Get(make([]byte, 24))
	_, sum := check.Get(sample.Turned(bytesOf(plain()), 100))
	told := map[api.Code]error{
		api.ErrArg: check.Right(check.Check{}), api.ErrLong: long, api.ErrShort: short, api.ErrForm: form, api.ErrSum: sum,
	}
	for want, e := range told {
		for code := api.ErrArg; code <= api.ErrWait; code++ {
			if errors.Is(e, code) != (code == want) {
				t.Errorf("P5.2: %v: is it %v?", e, code)
			}
		}
	}
}

func FuzzGet(f *testing.F) {
	f.Add(bytesOf(plain()))
	f.Add(bytesOf(check.Check{Volume: 3, Gen: 12}))
	f.Add(laid([]uint32{magic, 3, 12, 16, 1}, row{5, 16, 0, 9, 2}))
	f.Add([]byte{})
	f.Fuzz(func(t *testing.T, b []byte) {
		// Bytes are seldom right by chance: a sum makes more of them so.
		for _, b := range [][]byte{b, summed(b)} {
			c, e := check.Get(b)
			if e != nil {
				continue
			}
			// What is got has one form only: it is put as the same bytes.
			if put, e := check.Put(c); e != nil || !bytes.Equal(put, b) {
				t.Errorf("P5.3: Get(%x): %s", b, told(c))
			}
		}
	})
}
