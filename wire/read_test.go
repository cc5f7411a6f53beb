package wire_test

import (
	"bytes"
	"encoding/binary"
	"hash/crc32"
	"math"
	"strconv"
	"testing"

	"corncrib/api"
	"corncrib/sample"
	"corncrib/wire"
)

// unread asks that Read answers just this code, as it is, and nothing beside it.
func unread(t *testing.T, why string, b []byte, want api.Code) {
	t.Helper()
	if m, e := wire.Read(b); !sample.Is(e, want) || e != want || !alike(m, wire.Msg{}) {
		t.Errorf("P14.2: Read of %s: %+v, %v; want code %d", why, brief(m), e, want)
	}
}

func TestRead(t *testing.T) {
	for _, want := range msgs() {
		m, e := wire.Read(rawOf(want).bytes())
		if e != nil || !alike(m, want) {
			t.Errorf("P14.2: Read of %+v: %+v, %v", brief(want), brief(m), e)
		}
	}
}

func TestReadShort(t *testing.T) {
	unread(t, "nil", nil, api.ErrShort)
	good := rawOf(bare7()).bytes()
	for n := range 28 {
		name := strconv.Itoa(n) + " bytes"
		unread(t, name+" of a message", good[:n], api.ErrShort)
		unread(t, name+" of 0", make([]byte, n), api.ErrShort)
		unread(t, name+" of 255", bytes.Repeat([]byte{255}, n), api.ErrShort)
		// Neither the sum nor the form is looked at yet, be it right or wrong.
		if n >= 4 {
			unread(t, name+" with a right sum", sealed(good[:n-4]), api.ErrShort)
		}
	}
	unread(t, "28 bytes of 0", make([]byte, 28), api.ErrSum)
	unread(t, "28 bytes of 255", bytes.Repeat([]byte{255}, 28), api.ErrSum)
	unread(t, "24 bytes of 0 and their sum", sealed(make([]byte, 24)), api.ErrForm)
	if m, e := wire.Read(good); e != nil || !alike(m, bare7()) {
		t.Errorf("P14.2: Read of 28 bytes: %+v, %v", m, e)
	}
}

func TestReadCutOff(t *testing.T) {
	for _, m := range []wire.Msg{get7(), answer7()} {
		good := rawOf(m).bytes()
		for n := 28; n < len(good); n++ {
			unread(t, "what is cut off", good[:n], api.ErrSum)
		}
		for _, more := range [][]byte{{0}, {1}, make([]byte, 4), make([]byte, 8), good} {
			unread(t, "what has more behind", append(bytes.Clone(good), more...), api.ErrSum)
		}
	}
}

func TestReadWithOneBitTurned(t *testing.T) {
	for _, m := range []wire.Msg{get7(), bare7(), answer7(), {Kind: wire.Put, Vol: 1}} {
		good := rawOf(m).bytes()
		for bit := range 8 * len(good) {
			unread(t, "bytes with bit "+strconv.Itoa(bit)+" turned", sample.Turned(good, bit), api.ErrSum)
		}
	}
}

func TestReadOfSumsThatAreReckonedOtherwise(t *testing.T) {
	for _, m := range []wire.Msg{get7(), bare7(), answer7()} {
		b := rawOf(m).bytes()
		front := b[:len(b)-4]
		sums := map[string]uint32{
			"of another kind":             crc32.ChecksumIEEE(front),
			"with all its bits turned":    ^crc32.Checksum(front, castagnoli),
			"of itself as nought, too":    crc32.Checksum(append(bytes.Clone(front), 0, 0, 0, 0), castagnoli),
			"of all but the first byte":   crc32.Checksum(front[1:], castagnoli),
			"of all but the last byte":    crc32.Checksum(front[:len(front)-1], castagnoli),
			"of 23 bytes":                 crc32.Checksum(front[:23], castagnoli),
			"of the needle alone":         crc32.Checksum(front[24:], castagnoli),
			"whose bytes are turned over": binary.BigEndian.Uint32(b[len(front):]),
			"nought":                      0,
		}
		if m.Has {
			sums["of the numbers alone"] = crc32.Checksum(front[:24], castagnoli)
		}
		for why, s := range sums {
			unread(t, "a sum "+why, binary.LittleEndian.AppendUint32(bytes.Clone(front), s), api.ErrSum)
		}
	}
}

func TestReadOfOtherFlags(t *testing.T) {
	for _, m := range []wire.Msg{get7(), bare7(), answer7()} {
		flags := []uint32{2, 3, 255, 256, 257, 1 << 16, 1<<16 + 1, 1 << 24, 1<<24 + 1, math.MaxInt32, 1<<31 + 1, math.MaxUint32, math.MaxUint32 - 1}
		for bit := range 32 {
			flags = append(flags, rawOf(m).flag^1<<bit)
		}
		for _, flag := range flags {
			r := rawOf(m)
			r.flag = flag
			// A flag that says otherwise than what stands behind is no better than none.
			unread(t, "the flag "+strconv.FormatUint(uint64(flag), 10), r.bytes(), api.ErrForm)
		}
	}
}

// spoilt tells bytes that are no needle, or not one alone.
func spoilt() map[string][]byte {
	n := api.Needle{Key: 7, Cookie: 5, Data: []byte("maize")}
	good := blobBytes(n)
	all := map[string][]byte{
		"nothing":                     nil,
		"a needle twice":              append(bytes.Clone(good), good...),
		"a nought behind":             append(bytes.Clone(good), 0),
		"8 noughts behind":            append(bytes.Clone(good), make([]byte, 8)...),
		"32 noughts behind":           append(bytes.Clone(good), make([]byte, 32)...),
		"a nought ahead":              append([]byte{0}, good...),
		"a byte at the end":           sample.Turned(good, 8*39),
		"noughts":                     make([]byte, 40),
		"a needle's sum that isn't":   sample.Turned(good, 8*24),
		"data that isn't":             sample.Turned(good, 8*32),
		"another key than its sum's":  sample.Turned(good, 8*8),
		"another number ahead":        sample.Turned(good, 0),
		"noughts that aren't":         sample.Turned(good, 8*28),
		"one that is gone with data":  blobBytes(api.Needle{Key: 7, Gone: true, Data: []byte("maize")}),
		"one with too much data":      blobBytes(api.Needle{Key: 7, Data: make([]byte, 4097)}),
		"one with far too much data":  blobBytes(api.Needle{Key: 7, Data: make([]byte, 1<<16)}),
		"one that is gone, and 1":     append(blobBytes(api.Needle{Key: 7, Gone: true}), 0),
		"two flags":                   sample.Turned(good, 8*4+1),
		"one without its noughts":     good[:37],
		"one without data, and its 8": append(blobBytes(api.Needle{Key: 7}), make([]byte, 8)...),
	}
	for end := 1; end < len(good); end++ {
		all[strconv.Itoa(end)+" bytes of a needle"] = good[:end]
	}
	return all
}

func TestReadOfNeedlesThatAreNone(t *testing.T) {
	for why, body := range spoilt() {
		for _, m := range []wire.Msg{get7(), answer7()} {
			r := rawOf(m)
			r.body = body
			unread(t, "a message that has "+why, r.bytes(), api.ErrForm)
		}
	}
}

func TestReadOfBytesBehindNoNeedle(t *testing.T) {
	bodies := spoilt()
	delete(bodies, "nothing")
	bodies["a byte"] = []byte{1}
	bodies["4 noughts"] = make([]byte, 4)
	for i, n := range needles() {
		bodies["needle "+strconv.Itoa(i)] = blobBytes(n)
	}
	for why, body := range bodies {
		for _, m := range []wire.Msg{bare7(), {Kind: wire.Answer, Vol: 1, Code: 8}} {
			r := rawOf(m)
			r.body = body
			unread(t, "a message that has none, but "+why, r.bytes(), api.ErrForm)
		}
	}
}

// refusedBytes tells the bytes of messages that Check refuses, of all whose bytes
// there are: each number alone is one that can't be.
func refusedBytes() map[string]raw {
	all := map[string]raw{}
	for name, m := range map[string]wire.Msg{"with a needle": get7(), "without one": bare7(), "an answer": answer7()} {
		for _, kind := range []byte{0, 6, 7, 8, 127, 128, 133, 255} {
			r := rawOf(m)
			r.kind = kind
			all[name+", of the kind "+strconv.Itoa(int(kind))] = r
			r.code = 0
			all[name+", without a code, of the kind "+strconv.Itoa(int(kind))] = r
		}
		for kind := byte(1); kind <= 4; kind++ {
			for _, code := range []byte{1, 8, 128, 255} {
				r := rawOf(m)
				r.kind, r.code = kind, code
				all[name+", of the kind "+strconv.Itoa(int(kind))+" with the code "+strconv.Itoa(int(code))] = r
			}
		}
		for _, vol := range []uint32{0, 65536, 65537, 1<<16 + 3, 1 << 24, math.MaxInt32, 1 << 31, 1<<31 + 3, math.MaxUint32 - 2, math.MaxUint32} {
			r := rawOf(m)
			r.vol = vol
			all[name+", of the volume "+strconv.FormatUint(uint64(vol), 10)] = r
		}
		for _, life := range []uint32{1 << 31, 1<<31 + 1, math.MaxUint32 - 1, math.MaxUint32} {
			r := rawOf(m)
			r.life = life
			all[name+", of the life "+strconv.FormatUint(uint64(life), 10)] = r
		}
	}
	return all
}

func TestReadOfWhatCheckRefuses(t *testing.T) {
	for why, r := range refusedBytes() {
		unread(t, "a message "+why, r.bytes(), api.ErrForm)
	}
}

func TestReadLooksAtTheSumFirst(t *testing.T) {
	bad := refusedBytes()
	for why, body := range spoilt() {
		r := rawOf(answer7())
		r.body = body
		bad["that has "+why] = r
		// Of "nothing" the wrong sum alone is wrong.
		r.flag = 0
		bad["that has none, but "+why] = r
		r.flag = 2
		bad["with the flag 2, and "+why] = r
		r.vol = 0
		bad["of the volume 0 with the flag 2, and "+why] = r
	}
	for why, r := range bad {
		b := r.bytes()
		unread(t, "a wrong sum of a message "+why, sample.Turned(b, 8*len(b)-1), api.ErrSum)
		unread(t, "27 bytes of a message "+why, b[:27], api.ErrShort)
	}
}

func TestReadOfSeveralFormsThatCannotBe(t *testing.T) {
	// All of these are of one code, whichever is looked at first.
	r := rawOf(answer7())
	r.flag, r.kind, r.vol, r.life = 2, 6, 0, 1<<31
	r.body = sample.Turned(r.body, 0)
	unread(t, "a message with all that can't be", r.bytes(), api.ErrForm)
	// That a needle's sum is wrong, or that it ends too early, isn't told as such.
	r = rawOf(answer7())
	r.body = r.body[:33]
	unread(t, "a message whose needle ends too early", r.bytes(), api.ErrForm)
	r = rawOf(answer7())
	r.body = sample.Turned(r.body, 8*33)
	unread(t, "a message whose needle's sum is wrong", r.bytes(), api.ErrForm)
	// A right sum doesn't make a message of what has none of its forms.
	unread(t, "4096 noughts and their sum", sealed(make([]byte, 4096)), api.ErrForm)
	unread(t, "bytes of all kinds and their sum", sealed(sample.Bytes(1<<16)), api.ErrForm)
}

func TestReadLeavesWhatIsHandedIn(t *testing.T) {
	for _, size := range []int{0, 1, 5, 8, 4096} {
		want := answer7()
		want.N.Data = sample.Bytes(size)
		room := append(rawOf(want).bytes(), 1, 2, 3, 4, 5, 6, 7, 8)
		before := bytes.Clone(room)
		m, e := wire.Read(room[:len(room)-8])
		if e != nil || !alike(m, want) {
			t.Fatalf("P14.2: Read of data of %d with room behind: %+v, %v", size, brief(m), e)
		}
		sample.Spoil(m.N.Data)
		if !bytes.Equal(room, before) {
			t.Errorf("P14.2: Read of data of %d: what is handed in, or the room behind, is changed", size)
		}
		m, _ = wire.Read(room[:len(room)-8])
		again, _ := wire.Read(room[:len(room)-8])
		sample.Spoil(room)
		if !alike(m, want) {
			t.Errorf("P14.2: Read of data of %d: the data is the argument's memory", size)
		}
		sample.Spoil(m.N.Data)
		if !alike(again, want) {
			t.Errorf("P14.2: Read of data of %d: answers share memory", size)
		}
	}
	// Nor is anything changed of what is refused.
	for _, r := range refusedBytes() {
		b := r.bytes()
		before := bytes.Clone(b)
		wire.Read(b)
		wire.Read(b[:len(b)-1])
		if !bytes.Equal(b, before) {
			t.Errorf("P14.2: Read of %x: what is handed in is changed", before)
		}
	}
}

func TestWhatIsWrittenIsRead(t *testing.T) {
	for _, want := range msgs() {
		b, e := wire.Bytes(want)
		if e != nil {
			t.Fatalf("P14.3: Bytes of %+v: %v", brief(want), e)
		}
		m, e := wire.Read(b)
		if e != nil || !wire.Same(m, want) || !alike(m, want) {
			t.Errorf("P14.3: Read of %+v: %+v, %v", brief(want), brief(m), e)
		}
		if again, e := wire.Bytes(m); e != nil || !bytes.Equal(again, b) {
			t.Errorf("P14.3: Bytes of what is read of %+v: %v", brief(want), e)
		}
	}
}

func TestAnswersAreRead(t *testing.T) {
	for _, m := range msgs() {
		for _, want := range []wire.Msg{wire.Reply(m, 0, m.Has, m.N), wire.Reply(m, 6, false, api.Needle{})} {
			b, e := wire.Bytes(want)
			if e != nil {
				t.Fatalf("P14.3: Bytes of an answer to %+v: %v", brief(m), e)
			}
			if got, e := wire.Read(b); e != nil || !wire.Same(got, want) {
				t.Errorf("P14.3: Read of an answer to %+v: %+v, %v", brief(m), brief(got), e)
			}
		}
	}
}

// mayBe tells whether a message may be, as the tests see it.
func mayBe(m wire.Msg) bool {
	in := func(n, least, most int) bool { return least <= n && n <= most }
	if !in(m.From, 0, 255) || !in(m.To, 0, 255) || !in(m.Kind, 1, 5) || !in(m.Vol, 1, 65535) || !in(m.Life, 0, 1<<31-1) {
		return false
	}
	if !in(m.Code, 0, 255) || m.Kind != 5 && m.Code != 0 {
		return false
	}
	if !m.Has {
		return m.N.Key == 0 && m.N.Cookie == 0 && !m.N.Gone && len(m.N.Data) == 0
	}
	return len(m.N.Data) <= 4096 && !(m.N.Gone && len(m.N.Data) > 0)
}

func FuzzBytes(f *testing.F) {
	f.Add(9, 2, 3, 3, 1, uint64(40), 0, true, uint64(7), uint32(5), false, []byte{})
	f.Add(2, 9, 5, 3, 1, uint64(40), 8, true, uint64(7), uint32(5), false, []byte("maize"))
	f.Add(2, 9, 5, 65535, math.MaxInt32, uint64(0), 255, false, uint64(0), uint32(0), false, []byte{})
	f.Add(2, 9, 4, 1, 0, uint64(1), 0, true, uint64(7), uint32(5), true, []byte{})
	f.Fuzz(func(t *testing.T, from, to, kind, vol, life int, id uint64, code int, has bool, key uint64, cookie uint32, gone bool, data []byte) {
		m := wire.Msg{From: from, To: to, Kind: kind, Vol: vol, Life: life, Id: id, Code: code, Has: has}
		m.N = api.Needle{Key: key, Cookie: cookie, Gone: gone, Data: data}
		b, e := wire.Bytes(m)
		if (e == nil) != mayBe(m) || (wire.Check(m) == nil) != mayBe(m) {
			t.Fatalf("P14.1: Bytes of %+v: %v", m, e)
		}
		if e != nil {
			return
		}
		if got, e := wire.Read(b); e != nil || !wire.Same(got, m) || !bytes.Equal(b, rawOf(m).bytes()) {
			t.Errorf("P14.3: Read of %+v: %+v, %v", m, got, e)
		}
	})
}

func FuzzRead(f *testing.F) {
	for _, m := range []wire.Msg{get7(), bare7(), answer7()} {
		b := rawOf(m).bytes()
		f.Add(b[:len(b)-4])
	}
	f.Add([]byte{})
	f.Fuzz(func(t *testing.T, front []byte) {
		b := sealed(front)
		m, e := wire.Read(b)
		if e != nil {
			return
		}
		// A message has one form only: what is read is written as the same bytes.
		if again, e := wire.Bytes(m); e != nil || !bytes.Equal(again, b) || !mayBe(m) {
			t.Errorf("P14.3: Read of %x: %+v", b, m)
		}
	})
}
