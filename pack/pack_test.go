package pack_test

import (
	"bytes"
	"errors"
	"math"
	"testing"

	"corncrib/api"
	"corncrib/pack"
)

var sizes = []int{1, 2, 4, 8}

// wrongSizes are those that no number has, the neighbours of the right ones among them.
var wrongSizes = []int{math.MinInt, -8, -4, -2, -1, 0, 3, 5, 6, 7, 9, 16, 64, 257, 1<<32 + 1, 1<<32 + 8, math.MaxInt}

// greatest tells what size bytes hold at most, reckoned otherwise than pack does.
func greatest(size int) uint64 {
	return math.MaxUint64 >> (64 - 8*size)
}

// numbers are those about each power of two, and one whose bytes are all unlike.
func numbers() []uint64 {
	l := []uint64{0, 0x0102030405060708, 0xF1F2F3F4F5F6F7F8}
	for i := range 64 {
		p := uint64(1) << i
		l = append(l, p-1, p, p+1)
	}
	return append(l, math.MaxUint64)
}

func TestPutBytes(t *testing.T) {
	for _, x := range []struct {
		b    []byte
		n    uint64
		size int
		want []byte
	}{
		{nil, 0, 1, []byte{0}},
		{nil, 0, 8, []byte{0, 0, 0, 0, 0, 0, 0, 0}},
		{nil, 258, 2, []byte{2, 1}},
		{[]byte{}, 7, 4, []byte{7, 0, 0, 0}},
		{[]byte{9}, 255, 1, []byte{9, 255}},
		{[]byte{9, 8}, 65535, 2, []byte{9, 8, 255, 255}},
		{[]byte{9}, 0x80000000, 4, []byte{9, 0, 0, 0, 0x80}},
		{[]byte{9}, 1<<32 - 1, 4, []byte{9, 255, 255, 255, 255}},
		{[]byte{9}, 0x0102030405060708, 8, []byte{9, 8, 7, 6, 5, 4, 3, 2, 1}},
		{[]byte{9}, math.MaxUint64, 8, []byte{9, 255, 255, 255, 255, 255, 255, 255, 255}},
	} {
		got, e := pack.Put(x.b, x.n, x.size)
		if e != nil || !bytes.Equal(got, x.want) {
			t.Errorf("P1.1: Put(%v, %d, %d): %v, %v; want %v", x.b, x.n, x.size, got, e, x.want)
		}
	}
}

func TestPutLeavesWhatIsHandedIn(t *testing.T) {
	for _, size := range sizes {
		room := []byte{1, 2, 3, 4, 5, 6, 7, 8, 9, 10, 11, 12}
		before := bytes.Clone(room)
		b := room[:2]
		got, e := pack.Put(b, 0, size)
		if e != nil || !bytes.Equal(room, before) {
			t.Errorf("P1.1: Put in %d bytes: %v: b, or the room behind it, is %v", size, e, room)
		}
		for i := range got {
			got[i] = 99
		}
		if !bytes.Equal(room, before) {
			t.Errorf("P1.1: Put in %d bytes shares b's memory", size)
		}
		again, e := pack.Put(b, 0, size)
		if e != nil || !bytes.Equal(again, append([]byte{1, 2}, make([]byte, size)...)) {
			t.Errorf("P1.1: Put in %d bytes shares memory of an answer: %v, %v", size, again, e)
		}
	}
}

func TestPutErrors(t *testing.T) {
	for _, size := range wrongSizes {
		// The size is looked at first: a number too long for any of them changes nothing.
		for _, n := range []uint64{0, 1, math.MaxUint64} {
			got, e := pack.Put([]byte{9}, n, size)
			if !errors.Is(e, api.ErrArg) || len(got) != 0 {
				t.Errorf("P1.1: Put(%d) in %d bytes: %v, %v; want ErrArg", n, size, got, e)
			}
		}
	}
	for _, size := range sizes {
		for _, n := range numbers() {
			got, e := pack.Put([]byte{9}, n, size)
			if n > greatest(size) && (!errors.Is(e, api.ErrLong) || len(got) != 0) {
				t.Errorf("P1.1: Put(%d) in %d bytes: %v, %v; want ErrLong", n, size, got, e)
			}
			if n <= greatest(size) && (e != nil || len(got) != 1+size) {
				t.Errorf("P1.1: Put(%d) in %d bytes: %v, %v; want it", n, size, got, e)
			}
		}
	}
}

func TestGetNumbers(t *testing.T) {
	b := []byte{0xF1, 2, 3, 4, 5, 6, 7, 0xF8, 9}
	for _, x := range []struct {
		at, size int
		want     uint64
	}{
		{0, 1, 0xF1},
		{8, 1, 9},
		{0, 2, 0x02F1},
		{7, 2, 0x09F8},
		{0, 4, 0x040302F1},
		{4, 4, 0xF8070605},
		{5, 4, 0x09F80706},
		{0, 8, 0xF8070605040302F1},
		{1, 8, 0x09F8070605040302},
	} {
		before := bytes.Clone(b)
		got, e := pack.Get(b, x.at, x.size)
		if e != nil || got != x.want {
			t.Errorf("P1.1: Get(%d, %d): %#x, %v; want %#x", x.at, x.size, got, e, x.want)
		}
		if !bytes.Equal(b, before) {
			t.Errorf("P1.1: Get(%d, %d) changes the bytes: %v", x.at, x.size, b)
		}
	}
}

func TestGetErrors(t *testing.T) {
	// Bytes behind the end of b aren't b's, even where there is room for them.
	b := []byte{1, 2, 3, 4, 5, 6, 7, 8, 9, 10, 11, 12, 13, 14, 15, 16}[:8]
	for _, size := range wrongSizes {
		for _, at := range []int{math.MinInt, -1, 0, 8, 100, math.MaxInt} {
			if n, e := pack.Get(b, at, size); n != 0 || !errors.Is(e, api.ErrArg) {
				t.Errorf("P1.1: Get(%d, %d): %d, %v; want ErrArg", at, size, n, e)
			}
		}
	}
	for _, size := range sizes {
		// ErrArg comes ahead of ErrShort, also where there are no bytes.
		for _, at := range []int{-1, -size, math.MinInt, math.MinInt + size} {
			for _, l := range [][]byte{b, nil, {}} {
				if n, e := pack.Get(l, at, size); n != 0 || !errors.Is(e, api.ErrArg) {
					t.Errorf("P1.1: Get(%v, %d, %d): %d, %v; want ErrArg", l, at, size, n, e)
				}
			}
		}
		last := len(b) - size
		if n, e := pack.Get(b, last, size); n == 0 || e != nil {
			t.Errorf("P1.1: Get(%d, %d): %d, %v; want a number", last, size, n, e)
		}
		for _, at := range []int{last + 1, 8, 9, math.MaxInt - size, math.MaxInt - size + 1, math.MaxInt} {
			if n, e := pack.Get(b, at, size); n != 0 || !errors.Is(e, api.ErrShort) {
				t.Errorf("P1.1: Get(%d, %d): %d, %v; want ErrShort", at, size, n, e)
			}
		}
		for _, l := range [][]byte{nil, {}, b[:size-1]} {
			if n, e := pack.Get(l, 0, size); n != 0 || !errors.Is(e, api.ErrShort) {
				t.Errorf("P1.1: Get(%v, 0, %d): %d, %v; want ErrShort", l, size, n, e)
			}
		}
	}
}

func TestPad(t *testing.T) {
	for n, want := range []int{0, 7, 6, 5, 4, 3, 2, 1, 0, 7, 6, 5, 4, 3, 2, 1, 0, 7} {
		if got := pack.Pad(n); got != want {
			t.Errorf("P1.2: Pad(%d): %d; want %d", n, got, want)
		}
	}
	for _, x := range []struct{ n, want int }{
		{1 << 30, 0}, {1<<30 + 3, 5}, {math.MaxInt, 1}, {math.MaxInt - 7, 0}, {math.MaxInt - 6, 7},
		{-1, 0}, {-3, 0}, {-7, 0}, {-8, 0}, {-9, 0}, {math.MinInt, 0}, {math.MinInt + 1, 0},
	} {
		if got := pack.Pad(x.n); got != x.want {
			t.Errorf("P1.2: Pad(%d): %d; want %d", x.n, got, x.want)
		}
	}
}

func TestWhole(t *testing.T) {
	for _, x := range []struct{ n, want int }{
		{0, 0}, {1, 8}, {7, 8}, {8, 8}, {9, 16}, {15, 16}, {16, 16}, {4096, 4096}, {4097, 4104},
		{1<<30 - 8, 1<<30 - 8}, {1<<30 - 7, 1 << 30}, {1<<30 - 1, 1 << 30}, {1 << 30, 1 << 30},
	} {
		if got, e := pack.Whole(x.n); e != nil || got != x.want {
			t.Errorf("P1.2: Whole(%d): %d, %v; want %d", x.n, got, e, x.want)
		}
	}
	for _, n := range []int{-1, -8, -9, math.MinInt, math.MinInt + 1} {
		if got, e := pack.Whole(n); got != 0 || !errors.Is(e, api.ErrArg) {
			t.Errorf("P1.2: Whole(%d): %d, %v; want ErrArg", n, got, e)
		}
	}
	for _, n := range []int{1<<30 + 1, 1<<30 + 8, 1 << 31, math.MaxInt - 7, math.MaxInt} {
		if got, e := pack.Whole(n); got != 0 || !errors.Is(e, api.ErrLong) {
			t.Errorf("P1.2: Whole(%d): %d, %v; want ErrLong", n, got, e)
		}
	}
}

func TestZero(t *testing.T) {
	if !pack.Zero(nil) || !pack.Zero([]byte{}) {
		t.Error("P1.2: Zero of no bytes: false")
	}
	for n := 1; n <= 17; n++ {
		b := make([]byte, n)
		if !pack.Zero(b) {
			t.Errorf("P1.2: Zero of %d noughts: false", n)
		}
		for i := range b {
			for _, x := range []byte{1, 0x80, 255} {
				b[i] = x
				if pack.Zero(b) {
					t.Errorf("P1.2: Zero(%v): true", b)
				}
				if b[i] != x {
					t.Errorf("P1.2: Zero changes the bytes: %v", b)
				}
			}
			b[i] = 0
		}
	}
	// Two bytes whose sum goes round to 0 aren't noughts, nor is what stands behind the end asked.
	if pack.Zero([]byte{1, 255}) || pack.Zero([]byte{7, 7}) {
		t.Error("P1.2: Zero of bytes that cancel each other: true")
	}
	if !pack.Zero([]byte{0, 0, 5}[:2]) {
		t.Error("P1.2: Zero looks behind the end")
	}
}

func TestWhatIsPutIsGot(t *testing.T) {
	for _, size := range sizes {
		for _, n := range numbers() {
			if n > greatest(size) {
				continue
			}
			for _, ahead := range [][]byte{nil, {0}, {255, 254, 253}, make([]byte, 40)} {
				b, e := pack.Put(ahead, n, size)
				if e != nil || len(b) != len(ahead)+size || !bytes.Equal(b[:len(ahead)], ahead) {
					t.Fatalf("P1.3: Put(%v, %d, %d): %v, %v", ahead, n, size, b, e)
				}
				if got, e := pack.Get(append(b, 170, 85), len(ahead), size); e != nil || got != n {
					t.Errorf("P1.3: Get of what was put (%d in %d bytes): %d, %v", n, size, got, e)
				}
			}
		}
	}
}

func TestNumbersOneBehindTheOtherAreGot(t *testing.T) {
	var b []byte
	for i, size := range sizes {
		next, e := pack.Put(b, greatest(size)-uint64(i), size)
		if e != nil {
			t.Fatalf("P1.3: Put in %d bytes: %v", size, e)
		}
		b = next
	}
	at := 0
	for i, size := range sizes {
		if n, e := pack.Get(b, at, size); e != nil || n != greatest(size)-uint64(i) {
			t.Errorf("P1.3: Get(%d, %d): %d, %v", at, size, n, e)
		}
		at += size
	}
	if at != len(b) {
		t.Errorf("P1.3: %d bytes were put, %d got", len(b), at)
	}
}
