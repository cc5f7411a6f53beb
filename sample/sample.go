// Package sample tells bytes for the layers' tests, and what errors are of.
package sample

import (
	"bytes"
	"errors"

	"corncrib/api"
)

// Bytes tells n bytes of all kinds, always the same: no test hangs on chance.
func Bytes(n int) []byte {
	b := make([]byte, max(n, 0))
	state := uint32(len(b)) + 1
	for i := range b {
		state = state*1664525 + 1013904223
		b[i] = byte(state >> 24)
	}
	return b
}

// Turned tells a copy of b with one bit turned, if it has that bit.
func Turned(b []byte, bit int) []byte {
	b = bytes.Clone(b)
	if bit >= 0 && bit/8 < len(b) {
		b[bit/8] ^= 1 << (bit % 8)
	}
	return b
}

// Spoil writes over all of b, and over the room behind it.
func Spoil(b []byte) {
	b = b[:cap(b)]
	for i := range b {
		b[i] = ^b[i]
	}
}

// Is tells whether e is an error of this code and of no other one of api's; no
// error is of the code 0.
func Is(e error, code api.Code) bool {
	for c := api.ErrArg; c <= api.ErrWait; c++ {
		if errors.Is(e, c) != (c == code) {
			return false
		}
	}
	return (e == nil) == (code == 0)
}
