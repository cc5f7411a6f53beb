package wire_test

import (
	"bytes"
	"encoding/binary"
	"encoding/hex"
	"hash/crc32"
	"math"
	"testing"

	"corncrib/api"
	"corncrib/needle"
	"corncrib/sample"
	"corncrib/wire"
)

var castagnoli = crc32.MakeTable(crc32.Castagnoli)

// raw is a message's bytes, each number as it comes, so that it tells also those
// of messages that can't be.
type raw struct {
	from, to, kind, code byte
	vol, life            uint32
	id                   uint64
	flag                 uint32
	body                 []byte
}

// rawOf tells what a message's bytes should be.
func rawOf(m wire.Msg) raw {
	r := raw{
		from: byte(m.From), to: byte(m.To), kind: byte(m.Kind), code: byte(m.Code),
		vol: uint32(m.Vol), life: uint32(m.Life), id: m.Id,
	}
	if m.Has {
		r.flag, r.body = 1, blobBytes(m.N)
	}
	return r
}

// bytes tells them with a right sum behind: it is reckoned otherwise than by the
// program's layers.
func (r raw) bytes() []byte {
	b := []byte{r.from, r.to, r.kind, r.code}
	b = binary.LittleEndian.AppendUint32(b, r.vol)
	b = binary.LittleEndian.AppendUint32(b, r.life)
	b = binary.LittleEndian.AppendUint64(b, r.id)
	b = binary.LittleEndian.AppendUint32(b, r.flag)
	return sealed(append(b, r.body...))
}

// sealed tells b, and its sum behind.
func sealed(b []byte) []byte {
	b = bytes.Clone(b)
	return binary.LittleEndian.AppendUint32(b, crc32.Checksum(b, castagnoli))
}

// blobBytes tells the bytes that a needle should have, reckoned otherwise, too, and
// also of one that may not be.
func blobBytes(n api.Needle) []byte {
	var flags uint32
	if n.Gone {
		flags = 1
	}
	b := binary.LittleEndian.AppendUint32(nil, 0x4E45454C)
	b = binary.LittleEndian.AppendUint32(b, flags)
	b = binary.LittleEndian.AppendUint64(b, n.Key)
	b = binary.LittleEndian.AppendUint32(b, n.Cookie)
	b = binary.LittleEndian.AppendUint32(b, uint32(len(n.Data)))
	b = binary.LittleEndian.AppendUint32(b, crc32.Checksum(append(bytes.Clone(b), n.Data...), castagnoli))
	b = append(b, 0, 0, 0, 0)
	b = append(b, n.Data...)
	for len(b)%8 != 0 {
		b = append(b, 0)
	}
	return b
}

// Numbers that may be, and about the edges.
var (
	places = []int{0, 1, 2, 100, 127, 128, 254, 255}
	asking = []int{wire.Put, wire.Lay, wire.Get, wire.Del}
	vols   = []int{1, 2, 3, 255, 256, 257, 0x0201, 32767, 32768, 65534, 65535}
	lives  = []int{0, 1, 2, 255, 256, 65535, 65536, 65537, 1 << 24, 0x04030201, math.MaxInt32 - 1, math.MaxInt32}
	codes  = []int{0, 1, 2, 17, 18, 100, 127, 128, 254, 255}
	ids    = []uint64{0, 1, 255, 256, math.MaxUint32, 1 << 32, 0x0807060504030201, 1 << 63, math.MaxUint64 - 1, math.MaxUint64}
)

// far are numbers that no field may have; among them are those that would be right
// if they went round, or were cut to their bytes.
var far = []int{
	math.MinInt, math.MinInt + 1, math.MinInt + 3, -1 << 32, -1<<32 + 3, math.MinInt32 - 1, math.MinInt32, -math.MaxInt32,
	-65536, -65535, -65533, -257, -256, -255, -253, -3, -2, -1,
	1 << 31, 1<<31 + 3, math.MaxUint32 - 1, math.MaxUint32, 1 << 32, 1<<32 + 1, 1<<32 + 3, 1<<48 + 3, math.MaxInt - 1, math.MaxInt,
}

// Numbers that may not be, by their fields.
var (
	noPlaces = append([]int{256, 257, 259, 511, 512, 65535, 65536, 1 << 24, math.MaxInt32}, far...)
	noKinds  = append([]int{0, 6, 7, 255, 256, 257, 260, 261, 65537, math.MaxInt32}, far...)
	noVols   = append([]int{0, 65536, 65537, 65539, 1 << 17, math.MaxInt32}, far...)
	noLives  = far
	noCodes  = noPlaces
)

// needles are those that may be, of all kinds and about the edges.
func needles() []api.Needle {
	l := []api.Needle{
		{},
		{Data: []byte{}},
		{Gone: true},
		{Key: 1, Cookie: 2, Gone: true, Data: []byte{}},
		{Key: math.MaxUint64, Cookie: math.MaxUint32, Gone: true},
		{Key: math.MaxUint64, Cookie: math.MaxUint32, Data: bytes.Repeat([]byte{255}, 8)},
		{Key: 0x0807060504030201, Cookie: 0x0C0B0A09, Data: []byte("maize")},
		{Key: 5, Data: make([]byte, 13)},
		// Data that is a message's bytes itself, or a needle's.
		{Key: 5, Cookie: 6, Data: rawOf(get7()).bytes()},
		{Key: 5, Cookie: 6, Data: blobBytes(api.Needle{Key: 7, Data: []byte("corn")})},
	}
	for _, n := range []int{1, 2, 3, 7, 8, 9, 15, 16, 17, 255, 256, 4088, 4089, 4095, 4096} {
		l = append(l, api.Needle{Key: uint64(n) << 40, Cookie: uint32(n), Data: sample.Bytes(n)})
	}
	return l
}

// refusals are needles that may not be, and why.
var refusals = []struct {
	n    api.Needle
	want api.Code
}{
	{api.Needle{Data: make([]byte, 4097)}, api.ErrLong},
	{api.Needle{Key: math.MaxUint64, Cookie: math.MaxUint32, Data: sample.Bytes(4097)}, api.ErrLong},
	{api.Needle{Data: make([]byte, 4104)}, api.ErrLong},
	{api.Needle{Data: make([]byte, 1<<16)}, api.ErrLong},
	{api.Needle{Data: make([]byte, 1<<16+5)}, api.ErrLong},
	{api.Needle{Gone: true, Data: []byte{0}}, api.ErrArg},
	{api.Needle{Key: 3, Cookie: 4, Gone: true, Data: []byte("maize")}, api.ErrArg},
	{api.Needle{Gone: true, Data: make([]byte, 4096)}, api.ErrArg},
	// Too long and gone: needle.Check looks at the length first.
	{api.Needle{Gone: true, Data: make([]byte, 4097)}, api.ErrLong},
}

// get7 tells the chapter's example: a get of the key 7.
func get7() wire.Msg {
	return wire.Msg{From: 9, To: 2, Kind: wire.Get, Vol: 3, Life: 1, Id: 40, Has: true, N: api.Needle{Key: 7, Cookie: 5}}
}

// bare7 tells it without its needle.
func bare7() wire.Msg {
	m := get7()
	m.Has, m.N = false, api.Needle{}
	return m
}

// answer7 tells an answer with a code and a needle.
func answer7() wire.Msg {
	m := wire.Msg{From: 2, To: 9, Kind: wire.Answer, Vol: 3, Life: 1, Id: 40, Code: 8, Has: true}
	m.N = api.Needle{Key: 7, Cookie: 5, Data: []byte("maize")}
	return m
}

// field is one of a message's numbers that have ends.
type field struct {
	name    string
	of      func(m *wire.Msg) *int
	may, no []int
}

// fields are those that have the same ends in all messages.
func fields() []field {
	return []field{
		{"From", func(m *wire.Msg) *int { return &m.From }, places, noPlaces},
		{"To", func(m *wire.Msg) *int { return &m.To }, places, noPlaces},
		{"Vol", func(m *wire.Msg) *int { return &m.Vol }, vols, noVols},
		{"Life", func(m *wire.Msg) *int { return &m.Life }, lives, noLives},
	}
}

// starts are messages of all kinds, with and without a needle.
func starts() []wire.Msg {
	l := []wire.Msg{answer7(), {Kind: wire.Answer, Vol: 1}}
	for _, kind := range asking {
		a, b := get7(), bare7()
		a.Kind, b.Kind = kind, kind
		l = append(l, a, b)
	}
	return l
}

// msgs are messages that may be: each number about its edges in messages of each
// kind, each code of an answer, and each needle.
func msgs() []wire.Msg {
	l := []wire.Msg{
		{Kind: wire.Put, Vol: 1},
		{From: 255, To: 255, Kind: wire.Answer, Vol: 65535, Life: math.MaxInt32, Id: math.MaxUint64, Code: 255},
		{From: 1, To: 2, Kind: wire.Del, Vol: 0x0605, Life: 0x0C0B0A09, Id: 0x1413121110090807},
	}
	for _, m := range starts() {
		l = append(l, m)
		for _, f := range fields() {
			for _, n := range f.may {
				*f.of(&m) = n
				l = append(l, m)
			}
		}
		for _, id := range ids {
			m.Id = id
			l = append(l, m)
		}
		m.Has = true
		for _, n := range needles() {
			m.N = n
			l = append(l, m)
		}
	}
	for _, m := range []wire.Msg{answer7(), {Kind: wire.Answer, Vol: 1}} {
		for _, code := range codes {
			m.Code = code
			l = append(l, m)
		}
	}
	return l
}

// alike tells whether two messages are alike, as the tests see it.
func alike(a, b wire.Msg) bool {
	nums := func(m wire.Msg) [8]int {
		has, gone := 0, 0
		if m.Has {
			has = 1
		}
		if m.N.Gone {
			gone = 1
		}
		return [8]int{m.From, m.To, m.Kind, m.Vol, m.Life, m.Code, has, gone}
	}
	return nums(a) == nums(b) && a.Id == b.Id && a.N.Key == b.N.Key && a.N.Cookie == b.N.Cookie && string(a.N.Data) == string(b.N.Data)
}

// brief tells a message without its data, so that a fault is told in one line.
func brief(m wire.Msg) wire.Msg {
	if len(m.N.Data) > 20 {
		m.N.Data = m.N.Data[:20]
	}
	return m
}

// refused asks that Check and Bytes answer just this code, as it is, and nothing beside it.
func refused(t *testing.T, why string, m wire.Msg, want api.Code) {
	t.Helper()
	if e := wire.Check(m); !sample.Is(e, want) || e != want {
		t.Errorf("P14.1: Check of %s: %v; want code %d", why, e, want)
	}
	if b, e := wire.Bytes(m); !sample.Is(e, want) || e != want || len(b) != 0 {
		t.Errorf("P14.1: Bytes of %s: %d bytes, %v; want code %d", why, len(b), e, want)
	}
}

func TestKinds(t *testing.T) {
	if k := [5]int{wire.Put, wire.Lay, wire.Get, wire.Del, wire.Answer}; k != [5]int{1, 2, 3, 4, 5} {
		t.Errorf("P14.1: kinds: %v", k)
	}
}

func TestCheck(t *testing.T) {
	for _, m := range msgs() {
		if e := wire.Check(m); e != nil {
			t.Errorf("P14.1: Check of %+v: %v", brief(m), e)
		}
	}
}

func TestCheckOfNumbersThatCannotBe(t *testing.T) {
	for _, start := range starts() {
		for _, f := range fields() {
			for _, n := range f.no {
				m := start
				*f.of(&m) = n
				refused(t, f.name+" that can't be", m, api.ErrArg)
			}
		}
		for _, n := range noKinds {
			m := start
			m.Kind, m.Code = n, 0
			refused(t, "a kind that can't be", m, api.ErrArg)
			m.Code = 8
			refused(t, "a kind that can't be, with a code", m, api.ErrArg)
		}
		for _, n := range noCodes {
			m := start
			m.Code = n
			refused(t, "a code that can't be", m, api.ErrArg)
		}
	}
	refused(t, "nothing in it", wire.Msg{}, api.ErrArg)
}

func TestCheckOfCodesWithoutAnswers(t *testing.T) {
	for _, code := range codes {
		for kind := wire.Put; kind <= wire.Answer; kind++ {
			for _, m := range []wire.Msg{get7(), bare7()} {
				m.Kind, m.Code = kind, code
				if code != 0 && kind != wire.Answer {
					refused(t, "a code of what is no answer", m, api.ErrArg)
				} else if e := wire.Check(m); e != nil {
					t.Errorf("P14.1: Check of kind %d, code %d: %v", kind, code, e)
				}
			}
		}
	}
}

func TestCheckOfNeedlesThatMayNotBe(t *testing.T) {
	for _, start := range starts() {
		for _, x := range refusals {
			m := start
			m.Has, m.N = true, x.n
			refused(t, "a needle that may not be", m, x.want)
		}
	}
}

func TestCheckLooksAtTheMessageFirst(t *testing.T) {
	for _, x := range refusals {
		m := answer7()
		m.N = x.n
		for _, f := range fields() {
			for _, n := range f.no {
				bad := m
				*f.of(&bad) = n
				refused(t, f.name+" and a needle that may not be", bad, api.ErrArg)
			}
		}
		for _, n := range noKinds {
			bad := m
			bad.Kind = n
			refused(t, "a kind and a needle that may not be", bad, api.ErrArg)
		}
		for _, n := range noCodes {
			bad := m
			bad.Code = n
			refused(t, "a code and a needle that may not be", bad, api.ErrArg)
		}
		m.Kind = wire.Lay
		refused(t, "a code of what is no answer and a needle that may not be", m, api.ErrArg)
		// Without a needle none is asked of: what is there isn't the empty one.
		m.Kind, m.Has = wire.Answer, false
		refused(t, "none, and one that may not be", m, api.ErrArg)
	}
}

func TestCheckOfMessagesWithoutANeedle(t *testing.T) {
	for _, start := range starts() {
		for why, n := range map[string]api.Needle{
			"a key":               {Key: 1},
			"the greatest key":    {Key: math.MaxUint64},
			"a key of 2^32":       {Key: 1 << 32},
			"a cookie":            {Cookie: 1},
			"the greatest cookie": {Cookie: math.MaxUint32},
			"gone":                {Gone: true},
			"a byte of 0":         {Data: []byte{0}},
			"data":                {Data: []byte("maize")},
			"much data":           {Data: make([]byte, 4096)},
			"all":                 {Key: 1, Cookie: 2, Data: []byte("maize")},
		} {
			m := start
			m.Has, m.N = false, n
			refused(t, "no needle, but "+why, m, api.ErrArg)
		}
		m := start
		m.Has, m.N = false, api.Needle{Data: []byte{}}
		if e := wire.Check(m); e != nil {
			t.Errorf("P14.1: Check of none, with data that is empty but not nil: %v", e)
		}
		if b, e := wire.Bytes(m); e != nil || len(b) != 28 {
			t.Errorf("P14.1: Bytes of none, with data that is empty but not nil: %x, %v", b, e)
		}
	}
}

func TestBytesOfTheExample(t *testing.T) {
	want := "09020300" + "03000000" + "01000000" + "2800000000000000" + "01000000" +
		"4c45454e" + "00000000" + "0700000000000000" + "05000000" + "00000000" + "aee3b1d7" + "00000000" +
		"00919f3f"
	b, e := wire.Bytes(get7())
	if e != nil || len(b) != 28+32 || hex.EncodeToString(b) != want {
		t.Errorf("P14.1: Bytes of a get of the key 7: %x, %v; want %s", b, e, want)
	}
	known, _ := hex.DecodeString(want)
	if m, e := wire.Read(known); e != nil || !alike(m, get7()) {
		t.Errorf("P14.2: Read of a get of the key 7: %+v, %v", m, e)
	}
}

func TestBytesInTheirPlaces(t *testing.T) {
	// Each number has bytes of its own, none of which is another one's.
	m := wire.Msg{From: 1, To: 2, Kind: wire.Answer, Code: 4, Vol: 0x0807, Life: 0x0E0D0C0B, Id: 0x1817161514131211}
	want := []byte{1, 2, 5, 4, 7, 8, 0, 0, 0x0B, 0x0C, 0x0D, 0x0E, 0x11, 0x12, 0x13, 0x14, 0x15, 0x16, 0x17, 0x18, 0, 0, 0, 0}
	if b, e := wire.Bytes(m); e != nil || !bytes.Equal(b, sealed(want)) {
		t.Errorf("P14.1: Bytes of %+v: %x, %v; want %x", m, b, e, sealed(want))
	}
	m.Has, m.N = true, api.Needle{Key: 0x2827262524232221, Cookie: 0x34333231, Data: []byte("maize")}
	want[20] = 1
	want = append(want, blobBytes(m.N)...)
	if b, e := wire.Bytes(m); e != nil || !bytes.Equal(b, sealed(want)) {
		t.Errorf("P14.1: Bytes of %+v: %x, %v; want %x", m, b, e, sealed(want))
	}
}

func TestBytesAsReckonedOtherwise(t *testing.T) {
	for _, m := range msgs() {
		want := rawOf(m).bytes()
		b, e := wire.Bytes(m)
		if e != nil || !bytes.Equal(b, want) {
			t.Errorf("P14.1: Bytes of %+v: %d bytes, %v; want %d", brief(m), len(b), e, len(want))
		}
		size := 28
		if m.Has {
			size += needle.Size(len(m.N.Data))
		}
		if len(b) != size {
			t.Errorf("P14.1: Bytes of %+v: %d bytes; want %d", brief(m), len(b), size)
		}
	}
}

func TestBytesOfSizes(t *testing.T) {
	for data, want := range map[int]int{0: 60, 1: 68, 7: 68, 8: 68, 9: 76, 4095: 4156, 4096: 4156} {
		m := answer7()
		m.N.Data = sample.Bytes(data)
		if b, e := wire.Bytes(m); e != nil || len(b) != want {
			t.Errorf("P14.1: Bytes with data of %d: %d bytes, %v; want %d", data, len(b), e, want)
		}
	}
	m := bare7()
	if b, e := wire.Bytes(m); e != nil || len(b) != 28 {
		t.Errorf("P14.1: Bytes of none: %d bytes, %v", len(b), e)
	}
	m.Has, m.N = true, api.Needle{Key: 7, Gone: true}
	if b, e := wire.Bytes(m); e != nil || len(b) != 60 {
		t.Errorf("P14.1: Bytes of one that is gone: %d bytes, %v", len(b), e)
	}
}

func TestBytesLeavesWhatIsHandedIn(t *testing.T) {
	for _, size := range []int{0, 5, 8, 4096} {
		room := append(sample.Bytes(size), 1, 2, 3, 4, 5, 6, 7, 8)
		before := bytes.Clone(room)
		m := answer7()
		m.N.Data = room[:size]
		b, e := wire.Bytes(m)
		want := bytes.Clone(b)
		if e != nil || !bytes.Equal(want, rawOf(m).bytes()) {
			t.Fatalf("P14.1: Bytes of data of %d with room behind: %v", size, e)
		}
		sample.Spoil(b)
		if !bytes.Equal(room, before) {
			t.Errorf("P14.1: Bytes of data of %d: what is handed in, or the room behind, is changed", size)
		}
		if again, _ := wire.Bytes(m); !bytes.Equal(again, want) {
			t.Errorf("P14.1: Bytes of data of %d: answers share memory", size)
		}
		b, _ = wire.Bytes(m)
		sample.Spoil(room)
		if !bytes.Equal(b, want) {
			t.Errorf("P14.1: Bytes of data of %d: they are the argument's memory", size)
		}
	}
}
