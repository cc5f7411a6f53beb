package sum_test

import (
	"bytes"
	"hash/crc32"
	"math"
	"testing"

	"corncrib/api"
	"corncrib/sample"
	"corncrib/sum"
)

var castagnoli = crc32.MakeTable(crc32.Castagnoli)

// example is the chapter's, and sealed is it with its sum behind, the lowest byte first.
var (
	example = []byte("123456789")
	sealed  = []byte("123456789\x83\x92\x06\xE3")
)

// run tells n bytes: the first one, and each the last one and step.
func run(n int, first, step byte) []byte {
	b := make([]byte, n)
	for i := range b {
		b[i] = first + byte(i)*step
	}
	return b
}

// lengths are those about the edges, and about powers of two.
var lengths = []int{0, 1, 2, 3, 4, 5, 7, 8, 9, 15, 16, 17, 31, 32, 33, 63, 64, 65, 255, 256, 257, 1000, 4095, 4096, 4097}

func TestOfKnownSums(t *testing.T) {
	for _, x := range []struct {
		b    []byte
		want uint32
	}{
		{nil, 0},
		{[]byte{}, 0},
		{example, 0xE3069283},
		{[]byte("a"), 0xC1D04330},
		{[]byte{0}, 0x527D5351},
		{[]byte{255}, 0xFF000000},
		{[]byte{255, 255, 255, 255}, 0xFFFFFFFF},
		{make([]byte, 32), 0x8A9136AA},
		{bytes.Repeat([]byte{255}, 32), 0x62A8AB43},
		{run(32, 0, 1), 0x46DD794E},
		{run(32, 31, 255), 0x113FDB5C},
	} {
		if got := sum.Of(x.b); got != x.want {
			t.Errorf("P2.1: Of(%v): %#x; want %#x", x.b, got, x.want)
		}
	}
}

func TestOfAsReckonedOtherwise(t *testing.T) {
	for x := range 256 {
		b := []byte{byte(x)}
		if got, want := sum.Of(b), crc32.Checksum(b, castagnoli); got != want {
			t.Errorf("P2.1: Of(%v): %#x; want %#x", b, got, want)
		}
	}
	for _, n := range append(lengths, 1<<20+3) {
		for _, b := range [][]byte{sample.Bytes(n), make([]byte, n), bytes.Repeat([]byte{255}, n)} {
			if got, want := sum.Of(b), crc32.Checksum(b, castagnoli); got != want {
				t.Errorf("P2.1: Of %d bytes: %#x; want %#x", n, got, want)
			}
		}
	}
}

func TestSumsHangOnTheBytesAlone(t *testing.T) {
	// What stands behind the end isn't summed, and nothing is kept between calls.
	b := append(bytes.Clone(example), 1, 2, 3)[:len(example)]
	before := bytes.Clone(b[:cap(b)])
	for range 3 {
		if got := sum.Of(b); got != 0xE3069283 {
			t.Errorf("P2.1: Of, with room behind: %#x", got)
		}
		if got := sum.More(0xE3069283, b); got != sum.Of(append(bytes.Clone(example), example...)) {
			t.Errorf("P2.1: More, with room behind: %#x", got)
		}
		if !bytes.Equal(b[:cap(b)], before) {
			t.Fatalf("P2.1: the bytes are changed: %v", b[:cap(b)])
		}
	}
}

func TestMoreInTwoParts(t *testing.T) {
	for _, b := range [][]byte{nil, {0}, {255}, example, sample.Bytes(70), make([]byte, 20), bytes.Repeat([]byte{255}, 20)} {
		whole := sum.Of(b)
		for i := range len(b) + 1 {
			if got := sum.More(sum.Of(b[:i]), b[i:]); got != whole {
				t.Errorf("P2.1: More of %v in parts of %d and %d: %#x; want %#x", b, i, len(b)-i, got, whole)
			}
		}
	}
}

func TestMoreInManyParts(t *testing.T) {
	b := sample.Bytes(1000)
	for _, part := range []int{1, 2, 3, 7, 8, 64, 999, 1000, 2000} {
		// The sum of nothing is where all others go on from.
		got := sum.Of(nil)
		for at := 0; at < len(b); at += part {
			got = sum.More(got, b[at:min(at+part, len(b))])
			got = sum.More(got, nil)
		}
		if got != sum.Of(b) {
			t.Errorf("P2.1: More in parts of %d: %#x; want %#x", part, got, sum.Of(b))
		}
	}
}

func TestMoreOfAnySum(t *testing.T) {
	sums := []uint32{0, math.MaxUint32, 0xE3069283, 0x82F63B78, 0xDEADBEEF}
	for i := range 32 {
		sums = append(sums, 1<<i, ^uint32(1<<i))
	}
	for _, s := range sums {
		for _, b := range [][]byte{nil, {}} {
			if got := sum.More(s, b); got != s {
				t.Errorf("P2.1: More(%#x) of no bytes: %#x", s, got)
			}
		}
		for _, b := range [][]byte{{0}, {1}, {0x80}, {255}, example, sample.Bytes(33)} {
			if got, want := sum.More(s, b), crc32.Update(s, castagnoli, b); got != want {
				t.Errorf("P2.1: More(%#x, %v): %#x; want %#x", s, b, got, want)
			}
		}
	}
}

func TestSealBytes(t *testing.T) {
	for _, x := range []struct{ b, want []byte }{
		{nil, []byte{0, 0, 0, 0}},
		{[]byte{}, []byte{0, 0, 0, 0}},
		{example, sealed},
		{[]byte{255}, []byte{255, 0, 0, 0, 255}},
		{[]byte("a"), []byte{'a', 0x30, 0x43, 0xD0, 0xC1}},
		{[]byte{0}, []byte{0, 0x51, 0x53, 0x7D, 0x52}},
	} {
		if got := sum.Seal(x.b); !bytes.Equal(got, x.want) {
			t.Errorf("P2.2: Seal(%v): %v; want %v", x.b, got, x.want)
		}
	}
}

func TestOpenBytes(t *testing.T) {
	for _, x := range []struct{ b, want []byte }{
		{[]byte{0, 0, 0, 0}, nil},
		{sealed, example},
		{[]byte{255, 0, 0, 0, 255}, []byte{255}},
		{[]byte{0, 0x51, 0x53, 0x7D, 0x52}, []byte{0}},
		{[]byte{255, 255, 255, 255, 255, 255, 255, 255}, []byte{255, 255, 255, 255}},
		// What stands behind the end isn't looked at.
		{append(bytes.Clone(sealed), 7, 7, 7, 7)[:len(sealed)], example},
	} {
		if got, e := sum.Open(x.b); e != nil || !bytes.Equal(got, x.want) {
			t.Errorf("P2.2: Open(%v): %v, %v; want %v", x.b, got, e, x.want)
		}
	}
}

// refused tells whether Open answers an error as it is, and nothing beside it.
func refused(b []byte, want error) bool {
	got, e := sum.Open(b)
	return len(got) == 0 && e == want
}

func TestOpenShort(t *testing.T) {
	for _, b := range [][]byte{
		nil, {}, {0}, {0, 0}, {0, 0, 0}, {255, 255, 255}, {1, 2, 3},
		// There would be enough bytes behind the end, and a right sum, even.
		make([]byte, 16)[:0], make([]byte, 16)[:3], sealed[len(sealed)-3:], sealed[:3],
	} {
		if !refused(b, api.ErrShort) {
			got, e := sum.Open(b)
			t.Errorf("P2.2: Open(%v): %v, %v; want ErrShort", b, got, e)
		}
	}
}

func TestOpenWrongSums(t *testing.T) {
	for _, b := range [][]byte{
		// No bytes with another sum than 0.
		{1, 0, 0, 0}, {0, 0, 0, 1}, {255, 255, 255, 255}, {1, 2, 3, 4},
		// The highest byte first, the bits not turned at the end, the sum ahead, no sum at all.
		[]byte("123456789\xE3\x06\x92\x83"), []byte("123456789\x7C\x6D\xF9\x1C"),
		[]byte("\x83\x92\x06\xE3123456789"), example,
		// The sum of CRC-32 with its other number.
		[]byte("123456789\x26\x39\xF4\xCB"),
		// Another order, a byte too many, one too few.
		[]byte("213456789\x83\x92\x06\xE3"), append(bytes.Clone(sealed), 0), sealed[1:], sealed[:len(sealed)-1],
		append([]byte{0}, sealed...), make([]byte, 5), make([]byte, 8),
	} {
		if !refused(b, api.ErrSum) {
			got, e := sum.Open(b)
			t.Errorf("P2.2: Open(%v): %v, %v; want ErrSum", b, got, e)
		}
	}
}

func TestSealAndOpenLeaveWhatIsHandedIn(t *testing.T) {
	for _, x := range []struct {
		b    []byte
		call func(b []byte) []byte
	}{
		{example, sum.Seal},
		{sealed, func(b []byte) []byte { got, _ := sum.Open(b); return got }},
	} {
		room := append(bytes.Clone(x.b), 1, 2, 3, 4, 5, 6, 7, 8)
		before := bytes.Clone(room)
		got := x.call(room[:len(x.b)])
		want := bytes.Clone(got)
		for i := range got[:cap(got)] {
			got[:cap(got)][i] = 99
		}
		if !bytes.Equal(room, before) {
			t.Errorf("P2.2: what is handed in, or the room behind it, is changed: %v", room)
		}
		if again := x.call(room[:len(x.b)]); len(want) == 0 || !bytes.Equal(again, want) {
			t.Errorf("P2.2: answers share memory: %v; want %v", again, want)
		}
	}
}

func TestWhatIsSealedIsOpened(t *testing.T) {
	for _, n := range lengths {
		for _, b := range [][]byte{sample.Bytes(n), make([]byte, n), bytes.Repeat([]byte{255}, n)} {
			s := sum.Seal(b)
			if len(s) != n+4 || !bytes.Equal(s[:n], b) {
				t.Fatalf("P2.3: Seal of %d bytes tells %d", n, len(s))
			}
			if got, e := sum.Open(s); e != nil || !bytes.Equal(got, b) {
				t.Errorf("P2.3: Open of %d sealed bytes: %v", n, e)
			}
			// What is sealed is bytes as any: it may be sealed once more.
			if got, e := sum.Open(sum.Seal(s)); e != nil || !bytes.Equal(got, s) {
				t.Errorf("P2.3: Open of %d bytes sealed twice: %v", n, e)
			}
		}
	}
}

func TestOneBitTurnedIsNotOpened(t *testing.T) {
	for n := range 41 {
		for _, b := range [][]byte{sample.Bytes(n), make([]byte, n), bytes.Repeat([]byte{255}, n)} {
			s := sum.Seal(b)
			for bit := range 8 * len(s) {
				if !refused(sample.Turned(s, bit), api.ErrSum) {
					t.Errorf("P2.3: Open of %v with bit %d turned: it isn't refused", s, bit)
				}
			}
		}
	}
}

func TestOneBitOfManyTurnedIsNotOpened(t *testing.T) {
	s := sum.Seal(sample.Bytes(4096))
	last := 8*len(s) - 1
	bits := []int{0, 1, 8, last - 32, last - 31, last - 1, last}
	for bit := 5; bit < last; bit += 101 {
		bits = append(bits, bit)
	}
	for _, bit := range bits {
		if !refused(sample.Turned(s, bit), api.ErrSum) {
			t.Errorf("P2.3: Open of 4096 bytes with bit %d turned: it isn't refused", bit)
		}
	}
}
