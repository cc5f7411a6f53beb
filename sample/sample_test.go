package sample_test

import (
	"bytes"
	"errors"
	"math"
	"testing"

	"corncrib/api"
	"corncrib/sample"
)

func TestBytes(t *testing.T) {
	for _, n := range []int{0, 1, 2, 31, 4096} {
		b := sample.Bytes(n)
		if len(b) != n || !bytes.Equal(b, sample.Bytes(n)) {
			t.Errorf("Bytes(%d): %d bytes, or others the second time", n, len(b))
		}
	}
	for _, n := range []int{-1, math.MinInt} {
		if b := sample.Bytes(n); len(b) != 0 {
			t.Errorf("Bytes(%d): %d bytes", n, len(b))
		}
	}
	if seen := kinds(sample.Bytes(4096)); seen != 256 {
		t.Errorf("Bytes(4096): %d kinds of bytes", seen)
	}
}

// kinds tells how many different bytes there are.
func kinds(b []byte) int {
	seen := map[byte]int{}
	for _, x := range b {
		seen[x]++
	}
	return len(seen)
}

func TestTurned(t *testing.T) {
	b := []byte{0, 255}
	for bit, want := range map[int][]byte{
		0: {1, 255}, 7: {128, 255}, 8: {0, 254}, 15: {0, 127},
		-1: {0, 255}, 16: {0, 255}, math.MinInt: {0, 255}, math.MaxInt: {0, 255},
	} {
		if got := sample.Turned(b, bit); !bytes.Equal(got, want) {
			t.Errorf("Turned(%v, %d): %v; want %v", b, bit, got, want)
		}
	}
	if !bytes.Equal(b, []byte{0, 255}) {
		t.Errorf("Turned changes what is handed in: %v", b)
	}
}

func TestSpoil(t *testing.T) {
	b := []byte{0, 1, 255, 7}
	sample.Spoil(b[1:2])
	if !bytes.Equal(b, []byte{0, 254, 0, 248}) {
		t.Errorf("Spoil of one byte with two behind it: %v", b)
	}
	sample.Spoil(nil)
}

func TestIs(t *testing.T) {
	other := errors.New("another error")
	for code := api.Code(0); code <= api.ErrWait; code++ {
		for c := api.ErrArg; c <= api.ErrWait; c++ {
			for _, e := range []error{c, &api.At{File: "m3", Err: c}, errors.Join(other, c)} {
				if sample.Is(e, code) != (c == code) {
					t.Errorf("Is(%v, %d)", e, code)
				}
			}
			if sample.Is(errors.Join(c, api.ErrWait), code) != (c == code && c == api.ErrWait) {
				t.Errorf("Is of %d and ErrWait, %d", c, code)
			}
		}
		if sample.Is(other, code) || sample.Is(nil, code) != (code == 0) {
			t.Errorf("Is of no error, or of another one, %d", code)
		}
	}
}
