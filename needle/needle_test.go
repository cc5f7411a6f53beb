package needle_test

import (
	"bytes"
	"encoding/binary"
	"errors"
	"hash/crc32"
	"math"
	"slices"
	"strconv"
	"testing"

	"corncrib/api"
	"corncrib/needle"
	"corncrib/sample"
)

var castagnoli = crc32.MakeTable(crc32.Castagnoli)

// head is what stands ahead of the data, each number as it comes, so that it
// tells also heads that can't be.
type head struct {
	magic, flags uint32
	key          uint64
	cookie, data uint32
	noughts      uint32
}

// laid tells the bytes of a head and its data, with a right sum and the noughts
// behind: it is reckoned otherwise than by the program's layers.
func laid(h head, data []byte) []byte {
	b := binary.LittleEndian.AppendUint32(nil, h.magic)
	b = binary.LittleEndian.AppendUint32(b, h.flags)
	b = binary.LittleEndian.AppendUint64(b, h.key)
	b = binary.LittleEndian.AppendUint32(b, h.cookie)
	b = binary.LittleEndian.AppendUint32(b, h.data)
	b = binary.LittleEndian.AppendUint32(b, crc32.Checksum(append(bytes.Clone(b), data...), castagnoli))
	b = binary.LittleEndian.AppendUint32(b, h.noughts)
	b = append(b, data...)
	for len(b)%8 != 0 {
		b = append(b, 0)
	}
	return b
}

// whole tells the bytes that a needle should have.
func whole(n api.Needle) []byte {
	return laid(headOf(n), n.Data)
}

// headOf tells the head that a needle should have.
func headOf(n api.Needle) head {
	h := head{magic: 0x4E45454C, key: n.Key, cookie: n.Cookie, data: uint32(len(n.Data))}
	if n.Gone {
		h.flags = 1
	}
	return h
}

// needles are those that may be, of all kinds and about the edges.
func needles() []api.Needle {
	list := []api.Needle{
		{},
		{Data: []byte{}},
		{Gone: true},
		{Key: 1, Cookie: 2, Gone: true, Data: []byte{}},
		{Key: math.MaxUint64, Cookie: math.MaxUint32, Gone: true},
		{Key: math.MaxUint64, Cookie: math.MaxUint32, Data: bytes.Repeat([]byte{255}, api.MaxData)},
		{Key: 0x0807060504030201, Cookie: 0x0C0B0A09, Data: []byte("maize")},
		{Key: 1 << 63, Data: []byte{0}},
		{Cookie: 1 << 31, Data: make([]byte, 13)},
		// Data that is a needle's bytes itself.
		{Key: 5, Cookie: 6, Data: whole(api.Needle{Key: 7, Data: []byte("corn")})},
	}
	for n := range 41 {
		list = append(list, api.Needle{Key: uint64(n), Cookie: uint32(n) << 8, Data: sample.Bytes(n)})
	}
	for _, n := range []int{63, 64, 65, 255, 256, 257, 1023, 4087, 4088, 4089, 4095, 4096} {
		list = append(list, api.Needle{Key: uint64(n) << 40, Cookie: uint32(n), Data: sample.Bytes(n)})
	}
	return list
}

// alike tells whether two needles are alike, as the tests see it.
func alike(a, b api.Needle) bool {
	return a.Key == b.Key && a.Cookie == b.Cookie && a.Gone == b.Gone && slices.Equal(a.Data, b.Data)
}

func TestHead(t *testing.T) {
	if needle.Head != 32 {
		t.Errorf("P3.1: Head is %d", needle.Head)
	}
}

func TestCheck(t *testing.T) {
	for _, n := range needles() {
		if e := needle.Check(n); e != nil {
			t.Errorf("P3.1: Check of key %d with %d bytes: %v", n.Key, len(n.Data), e)
		}
	}
}

// refusals are needles that may not be, and why.
var refusals = []struct {
	n    api.Needle
	want error
}{
	{api.Needle{Data: make([]byte, 4097)}, api.ErrLong},
	{api.Needle{Key: math.MaxUint64, Cookie: math.MaxUint32, Data: sample.Bytes(4097)}, api.ErrLong},
	{api.Needle{Data: make([]byte, 4104)}, api.ErrLong},
	{api.Needle{Data: make([]byte, 1<<16)}, api.ErrLong},
	{api.Needle{Data: make([]byte, 1<<16+5)}, api.ErrLong},
	{api.Needle{Gone: true, Data: []byte{0}}, api.ErrArg},
	{api.Needle{Key: 3, Cookie: 4, Gone: true, Data: []byte("maize")}, api.ErrArg},
	{api.Needle{Gone: true, Data: make([]byte, 4096)}, api.ErrArg},
	// Too long and gone: the length is looked at first.
	{api.Needle{Gone: true, Data: make([]byte, 4097)}, api.ErrLong},
	{api.Needle{Gone: true, Data: make([]byte, 1<<20)}, api.ErrLong},
}

func TestNeedlesThatMayNotBe(t *testing.T) {
	for _, x := range refusals {
		if e := needle.Check(x.n); !errors.Is(e, x.want) {
			t.Errorf("P3.1: Check of %d bytes, gone %v: %v; want %v", len(x.n.Data), x.n.Gone, e, x.want)
		}
		if b, e := needle.Put(x.n); !errors.Is(e, x.want) || len(b) != 0 {
			t.Errorf("P3.1: Put of %d bytes, gone %v: %d bytes, %v; want %v", len(x.n.Data), x.n.Gone, len(b), e, x.want)
		}
	}
}

func TestSize(t *testing.T) {
	for data, want := range map[int]int{
		0: 32, 1: 40, 5: 40, 7: 40, 8: 40, 9: 48, 16: 48, 17: 56,
		4087: 4120, 4088: 4120, 4089: 4128, 4095: 4128, 4096: 4128,
		-1: 0, -8: 0, -32: 0, -33: 0, math.MinInt: 0, math.MinInt + 7: 0,
		4097: 0, 4104: 0, 1 << 16: 0, 1 << 32: 0, math.MaxInt: 0, math.MaxInt - 31: 0,
	} {
		if got := needle.Size(data); got != want {
			t.Errorf("P3.1: Size(%d): %d; want %d", data, got, want)
		}
	}
	for data := range api.MaxData + 1 {
		got := needle.Size(data)
		if got%8 != 0 || got < 32+data || got >= 32+data+8 {
			t.Errorf("P3.1: Size(%d): %d", data, got)
		}
	}
}

func TestPutKnownBytes(t *testing.T) {
	for _, x := range []struct {
		n    api.Needle
		want string
	}{
		{api.Needle{Key: 0x0807060504030201, Cookie: 0x0C0B0A09, Data: []byte("maize")},
			"LEEN\x00\x00\x00\x00\x01\x02\x03\x04\x05\x06\x07\x08\x09\x0A\x0B\x0C\x05\x00\x00\x00" +
				"\x6E\xB9\x47\x77\x00\x00\x00\x00maize\x00\x00\x00"},
		{api.Needle{Key: 1, Cookie: 2, Gone: true},
			"LEEN\x01\x00\x00\x00\x01\x00\x00\x00\x00\x00\x00\x00\x02\x00\x00\x00\x00\x00\x00\x00" +
				"\xF1\xD0\x5B\x3D\x00\x00\x00\x00"},
	} {
		if b, e := needle.Put(x.n); e != nil || string(b) != x.want {
			t.Errorf("P3.1: Put(%v): %x, %v; want %x", x.n, b, e, x.want)
		}
		if n, size, e := needle.Get([]byte(x.want)); e != nil || size != len(x.want) || !alike(n, x.n) {
			t.Errorf("P3.2: Get(%x): %v, %d, %v", x.want, n, size, e)
		}
	}
}

func TestPutAsReckonedOtherwise(t *testing.T) {
	for _, n := range needles() {
		b, e := needle.Put(n)
		if e != nil || !bytes.Equal(b, whole(n)) {
			t.Errorf("P3.1: Put of key %d with %d bytes: %x, %v; want %x", n.Key, len(n.Data), b, e, whole(n))
		}
		if len(b) != needle.Size(len(n.Data)) {
			t.Errorf("P3.1: Put of %d bytes tells %d; Size tells %d", len(n.Data), len(b), needle.Size(len(n.Data)))
		}
	}
}

func TestSame(t *testing.T) {
	list := needles()
	// Both have no data, once nil and once empty: they are one needle.
	list = slices.DeleteFunc(list, func(n api.Needle) bool { return n.Data != nil && len(n.Data) == 0 })
	for i, a := range list {
		for j, b := range list {
			b.Data = bytes.Clone(b.Data)
			if got := needle.Same(a, b); got != alike(a, b) || i == j && !got {
				t.Errorf("P3.1: Same of needles %d and %d: %v", i, j, got)
			}
		}
	}
}

func TestSameLooksAtAll(t *testing.T) {
	a := api.Needle{Key: 1, Cookie: 2, Data: []byte("corn")}
	for _, x := range []struct {
		b    api.Needle
		want bool
	}{
		{api.Needle{Key: 1, Cookie: 2, Data: []byte("corn")}, true},
		{api.Needle{Key: 1, Cookie: 2, Data: []byte("corncrib")[:4]}, true},
		{api.Needle{Key: 1 + 1<<32, Cookie: 2, Data: []byte("corn")}, false},
		{api.Needle{Key: 2, Cookie: 1, Data: []byte("corn")}, false},
		{api.Needle{Key: 1, Cookie: 2 + 1<<16, Data: []byte("corn")}, false},
		{api.Needle{Key: 1, Cookie: 2, Gone: true, Data: []byte("corn")}, false},
		{api.Needle{Key: 1, Cookie: 2, Data: []byte("cord")}, false},
		{api.Needle{Key: 1, Cookie: 2, Data: []byte("Corn")}, false},
		{api.Needle{Key: 1, Cookie: 2, Data: []byte("corncrib")}, false},
		{api.Needle{Key: 1, Cookie: 2, Data: []byte("cor")}, false},
		{api.Needle{Key: 1, Cookie: 2, Data: []byte("corn\x00")}, false},
		{api.Needle{Key: 1, Cookie: 2}, false},
		{api.Needle{Key: 1, Cookie: 2, Gone: true}, false},
	} {
		if needle.Same(a, x.b) != x.want || needle.Same(x.b, a) != x.want {
			t.Errorf("P3.1: Same(%v, %v) isn't %v", a, x.b, x.want)
		}
	}
}

func TestSameOfWhatMayNotBe(t *testing.T) {
	// No data is no data; needles that may not be are held against each other as any.
	empty := api.Needle{Key: 1, Data: []byte{}}
	if !needle.Same(api.Needle{Key: 1}, empty) || !needle.Same(empty, api.Needle{Key: 1}) {
		t.Errorf("P3.1: Same: nil and empty data aren't alike")
	}
	for _, x := range refusals {
		b := x.n
		b.Data = bytes.Clone(b.Data)
		if !needle.Same(x.n, b) {
			t.Errorf("P3.1: Same: %d bytes, gone %v: not alike to themselves", len(b.Data), b.Gone)
		}
		b.Data[len(b.Data)-1]++
		if needle.Same(x.n, b) {
			t.Errorf("P3.1: Same: %d bytes, gone %v: alike to others", len(b.Data), b.Gone)
		}
	}
}

// refused asks that Get answers an error, and nothing beside it.
func refused(t *testing.T, why string, b []byte, want error) {
	t.Helper()
	n, size, e := needle.Get(b)
	if !errors.Is(e, want) || size != 0 || !alike(n, api.Needle{}) {
		t.Errorf("P3.2: Get, %s: %v, %d, %v; want %v", why, n, size, e, want)
	}
}

func TestGet(t *testing.T) {
	for _, want := range needles() {
		b := whole(want)
		n, size, e := needle.Get(b)
		if e != nil || size != len(b) || !alike(n, want) {
			t.Errorf("P3.2: Get of key %d with %d bytes: key %d, %d of %d bytes, %v", want.Key, len(want.Data), n.Key, size, len(b), e)
		}
	}
}

func TestGetShort(t *testing.T) {
	refused(t, "nil", nil, api.ErrShort)
	refused(t, "nothing", []byte{}, api.ErrShort)
	for _, n := range needles() {
		b := whole(n)
		for end := range len(b) {
			if end > 80 && end < len(b)-16 && end%97 != 0 {
				continue
			}
			// It ends in the head, in the data, or in the noughts; what stands behind the end isn't looked at.
			refused(t, "cut off", b[:end], api.ErrShort)
		}
	}
}

func TestGetShortAheadOfAnyForm(t *testing.T) {
	for n := range 32 {
		refused(t, "noughts alone", make([]byte, n), api.ErrShort)
		refused(t, "255 alone", bytes.Repeat([]byte{255}, n), api.ErrShort)
	}
	refused(t, "32 noughts", make([]byte, 32), api.ErrForm)
	refused(t, "32 times 255", bytes.Repeat([]byte{255}, 32), api.ErrForm)
}

// spoilt are heads that can't be; each has a right sum, where it can have one.
func spoilt() map[string]head {
	good := headOf(api.Needle{Key: 1, Cookie: 2, Data: []byte("maize")})
	gone := headOf(api.Needle{Key: 1, Cookie: 2, Gone: true})
	all := map[string]head{}
	for i := range 32 {
		bit := uint32(1) << i
		name := " (bit " + strconv.Itoa(i) + ")"
		h := good
		h.magic ^= bit
		all["another number ahead"+name] = h
		h = good
		h.noughts = bit
		all["noughts that aren't"+name] = h
		if bit == 1 {
			continue
		}
		h = good
		h.flags = bit
		all["other flags"+name] = h
		h = gone
		h.flags |= bit
		all["gone and other flags"+name] = h
	}
	for name, data := range map[string]uint32{
		"one byte too many": 4097, "8 too many": 4104, "2^16": 1 << 16, "2^16 and 5": 1<<16 + 5,
		"2^31 - 1": math.MaxInt32, "2^31": 1 << 31, "2^31 and 5": 1<<31 + 5, "2^32 - 1": math.MaxUint32, "2^32 - 32": math.MaxUint32 - 31,
	} {
		h := good
		h.data = data
		all[name] = h
		h.flags = 1
		all["gone, "+name] = h
	}
	for name, data := range map[string]uint32{"1": 1, "5": 5, "8": 8, "4096": 4096} {
		h := gone
		h.data = data
		all["gone with data of "+name] = h
	}
	h := good
	h.magic = 0x4C45454E
	all["the number's bytes the other way round"] = h
	return all
}

func TestGetForm(t *testing.T) {
	for why, h := range spoilt() {
		data := sample.Bytes(int(min(h.data, 1<<16+5)))
		b := laid(h, data)
		refused(t, why, b, api.ErrForm)
		refused(t, why+", and more behind", append(bytes.Clone(b), sample.Bytes(50)...), api.ErrForm)
	}
}

func TestGetFormAheadOfShortAndSum(t *testing.T) {
	for why, h := range spoilt() {
		b := laid(h, nil)
		// Without the data: bytes are missing, but the form is looked at first.
		refused(t, why+", cut off behind the head", b[:32], api.ErrForm)
		b[24]++
		refused(t, why+", with a wrong sum", b[:32], api.ErrForm)
		refused(t, why+", with a wrong sum and all bytes", append(b[:32], make([]byte, 5000)...), api.ErrForm)
	}
}

func TestGetSum(t *testing.T) {
	for _, n := range needles() {
		good := whole(n)
		for bit := range 32 {
			refused(t, "a bit of the sum turned", sample.Turned(good, 8*24+bit), api.ErrSum)
		}
		for i := range 12 {
			refused(t, "key or cookie turned", sample.Turned(good, 8*(8+i)+i%8), api.ErrSum)
		}
		for i := range n.Data {
			if i > 20 && i < len(n.Data)-8 && i%61 != 0 {
				continue
			}
			refused(t, "data turned", sample.Turned(good, 8*(32+i)+i%8), api.ErrSum)
		}
	}
}

func TestGetSumIsOfFlagsAndLength(t *testing.T) {
	// A needle without data that is gone by one bit alone.
	b := whole(api.Needle{Key: 1, Cookie: 2})
	b[4] = 1
	refused(t, "made gone", b, api.ErrSum)
	b = whole(api.Needle{Key: 1, Cookie: 2, Gone: true})
	b[4] = 0
	refused(t, "made not gone", b, api.ErrSum)
	// The noughts behind would be data, or the data's last byte a nought behind.
	b = whole(api.Needle{Key: 1, Data: []byte("maize")})
	b[20] = 6
	refused(t, "longer by a nought", b, api.ErrSum)
	b = whole(api.Needle{Key: 1, Data: []byte("maize\x00")})
	b[20] = 5
	refused(t, "shorter by a nought", b, api.ErrSum)
}

func TestGetSumsThatAreReckonedOtherwise(t *testing.T) {
	good := whole(api.Needle{Key: 9, Cookie: 8, Data: []byte("maize")})
	sums := map[string]uint32{
		"of the data alone":           crc32.Checksum(good[32:37], castagnoli),
		"of the front alone":          crc32.Checksum(good[:24], castagnoli),
		"of the noughts, too":         crc32.Checksum(slices.Concat(good[:24], good[32:]), castagnoli),
		"of the head's noughts, too":  crc32.Checksum(slices.Concat(good[:24], good[28:37]), castagnoli),
		"of the data ahead":           crc32.Checksum(slices.Concat(good[32:37], good[:24]), castagnoli),
		"of another kind":             crc32.ChecksumIEEE(slices.Concat(good[:24], good[32:37])),
		"with all its bits turned":    ^crc32.Checksum(slices.Concat(good[:24], good[32:37]), castagnoli),
		"of a head with a sum nought": crc32.Checksum(slices.Concat(good[:24], make([]byte, 8), good[32:37]), castagnoli),
		"nought":                      0,
	}
	for why, sum := range sums {
		b := bytes.Clone(good)
		binary.LittleEndian.PutUint32(b[24:], sum)
		refused(t, "the sum "+why, b, api.ErrSum)
	}
}

func TestGetFormOfBytesAtTheEnd(t *testing.T) {
	for _, n := range needles() {
		good := whole(n)
		for i := 32 + len(n.Data); i < len(good); i++ {
			for _, x := range []byte{1, 0x80, 255} {
				b := bytes.Clone(good)
				b[i] = x
				refused(t, "no nought at the end", b, api.ErrForm)
				refused(t, "no nought at the end, and more behind", append(bytes.Clone(b), 0, 0, 0), api.ErrForm)
				// The noughts at the end are looked at last.
				refused(t, "no nought at the end, and cut off", b[:len(b)-1], api.ErrShort)
				b[8]++
				refused(t, "no nought at the end, and a wrong sum", b, api.ErrSum)
			}
		}
	}
}

func TestGetShortAheadOfSum(t *testing.T) {
	b := whole(api.Needle{Key: 9, Cookie: 8, Data: []byte("maize")})
	b[24]++
	b[33]++
	for end := range len(b) {
		refused(t, "cut off, with a wrong sum", b[:end], api.ErrShort)
	}
	refused(t, "a wrong sum", b, api.ErrSum)
}

func TestWhatIsPutIsGot(t *testing.T) {
	behind := [][]byte{
		nil, {0}, {255}, make([]byte, 40), bytes.Repeat([]byte{255}, 40), sample.Bytes(5000),
		whole(api.Needle{Key: 1, Data: []byte("corn")}), []byte("LEEN"),
	}
	for _, want := range needles() {
		b, e := needle.Put(want)
		if e != nil {
			t.Fatalf("P3.3: Put of %d bytes: %v", len(want.Data), e)
		}
		for _, more := range behind {
			n, size, e := needle.Get(slices.Concat(b, more))
			if e != nil || size != len(b) || !alike(n, want) || !needle.Same(n, want) {
				t.Errorf("P3.3: Get of key %d with %d bytes, %d bytes behind: key %d, %d bytes, %v", want.Key, len(want.Data), len(more), n.Key, size, e)
			}
		}
	}
}

func TestNeedlesOneBehindTheOther(t *testing.T) {
	var file []byte
	for _, n := range needles() {
		b, _ := needle.Put(n)
		file = append(file, b...)
	}
	for i, want := range needles() {
		n, size, e := needle.Get(file)
		if e != nil || !alike(n, want) {
			t.Fatalf("P3.3: needle %d of a file: %v", i, e)
		}
		file = file[size:]
	}
	refused(t, "behind the last needle", file, api.ErrShort)
}

func TestOneBitTurnedIsNotGot(t *testing.T) {
	for _, want := range needles()[:20] {
		good := whole(want)
		for bit := range 8 * min(len(good), 256) {
			n, size, e := needle.Get(sample.Turned(good, bit))
			if e == nil || size != 0 || !alike(n, api.Needle{}) {
				t.Errorf("P3.2: Get of %d bytes with bit %d turned: %v, %d, %v", len(good), bit, n, size, e)
			}
		}
	}
}

func TestPutLeavesWhatIsHandedIn(t *testing.T) {
	for _, size := range []int{0, 5, 8, 4096} {
		room := append(sample.Bytes(size), 1, 2, 3, 4, 5, 6, 7, 8)
		before := bytes.Clone(room)
		n := api.Needle{Key: 1, Cookie: 2, Data: room[:size]}
		b, e := needle.Put(n)
		want := bytes.Clone(b)
		if e != nil || !bytes.Equal(want, whole(n)) {
			t.Fatalf("P3.1: Put of %d bytes with room behind: %v", size, e)
		}
		sample.Spoil(b)
		if !bytes.Equal(room, before) {
			t.Errorf("P3.1: Put of %d bytes: what is handed in, or the room behind, is changed", size)
		}
		if again, _ := needle.Put(n); !bytes.Equal(again, want) {
			t.Errorf("P3.1: Put of %d bytes: answers share memory", size)
		}
		sample.Spoil(room)
		if needle.Same(n, api.Needle{Key: 1, Cookie: 2, Data: before[:size]}) != (size == 0) {
			t.Errorf("P3.1: Same keeps what it was asked")
		}
	}
}

func TestGetLeavesWhatIsHandedIn(t *testing.T) {
	for _, size := range []int{0, 5, 8, 4096} {
		want := api.Needle{Key: 1, Cookie: 2, Data: sample.Bytes(size)}
		room := append(whole(want), 1, 2, 3, 4, 5, 6, 7, 8)
		before := bytes.Clone(room)
		n, end, e := needle.Get(room[:len(room)-8])
		if e != nil || end != len(room)-8 || !alike(n, want) {
			t.Fatalf("P3.2: Get of %d bytes with room behind: %d, %v", size, end, e)
		}
		sample.Spoil(n.Data)
		if !bytes.Equal(room, before) {
			t.Errorf("P3.2: Get of %d bytes: what is handed in, or the room behind, is changed", size)
		}
		n, _, _ = needle.Get(room)
		sample.Spoil(room)
		if !alike(n, want) {
			t.Errorf("P3.2: Get of %d bytes: the data is the argument's memory", size)
		}
	}
}

func TestErrorsAreToldApart(t *testing.T) {
	good := whole(api.Needle{Key: 1, Data: []byte("maize")})
	wrong := bytes.Clone(good)
	wrong[24]++
	get := func(b []byte) error { _, _, e := needle.Get(b); return e }
	told := map[api.Code]error{
		api.ErrLong:  needle.Check(api.Needle{Data: make([]byte, 4097)}),
		api.ErrArg:   needle.Check(api.Needle{Gone: true, Data: []byte{1}}),
		api.ErrShort: get(good[:39]),
		api.ErrForm:  get(make([]byte, 32)),
		api.ErrSum:   get(wrong),
	}
	for want, e := range told {
		for code := api.ErrArg; code <= api.ErrWait; code++ {
			if errors.Is(e, code) != (code == want) {
				t.Errorf("P3.2: %v: is it %v?", e, code)
			}
		}
	}
}

func FuzzGet(f *testing.F) {
	f.Add(whole(api.Needle{Key: 1, Cookie: 2, Data: []byte("maize")}))
	f.Add(whole(api.Needle{Key: 1, Gone: true}))
	f.Add([]byte{})
	f.Fuzz(func(t *testing.T, b []byte) {
		n, size, e := needle.Get(b)
		if e != nil {
			return
		}
		// A needle has one form only: what is got is put as the same bytes.
		if put, e := needle.Put(n); e != nil || size > len(b) || !bytes.Equal(put, b[:size]) {
			t.Errorf("P3.2: Get(%x): %v, %d", b, n, size)
		}
	})
}
