// Package pack is layer 1: numbers as bytes, the lowest byte first.
package pack

import "corncrib/api"

const (
	step     = 8       // Pad fills up to a multiple of it
	maxWhole = 1 << 30 // the greatest n that Whole takes
)

// Put tells b, and behind it n in size bytes.
func Put(b []byte, n uint64, size int) ([]byte, error) {
	most := greatest(size)
	if most == 0 {
		return nil, api.ErrArg
	}
	if n > most {
		return nil, api.ErrLong
	}
	// To append to b itself could write into room behind it that is the caller's.
	out := make([]byte, len(b), len(b)+size)
	copy(out, b)
	for range size {
		out = append(out, byte(n))
		n >>= 8
	}
	return out, nil
}

// Get tells the number that stands in size bytes of b from at on.
func Get(b []byte, at, size int) (uint64, error) {
	if greatest(size) == 0 || at < 0 {
		return 0, api.ErrArg
	}
	// at+size could go round, the difference can't.
	if at > len(b)-size {
		return 0, api.ErrShort
	}
	var n uint64
	for i := size - 1; i >= 0; i-- {
		n = n<<8 | uint64(b[at+i])
	}
	return n, nil
}

// Pad tells how many bytes n lacks up to a multiple of 8.
func Pad(n int) int {
	if n < 0 {
		return 0
	}
	return (step - n%step) % step
}

// Whole tells n with the bytes that it lacks.
func Whole(n int) (int, error) {
	if n < 0 {
		return 0, api.ErrArg
	}
	if n > maxWhole {
		return 0, api.ErrLong
	}
	return n + Pad(n), nil
}

// Zero tells whether all bytes are 0; where there are none, all are.
func Zero(b []byte) bool {
	for _, x := range b {
		if x != 0 {
			return false
		}
	}
	return true
}

// greatest tells the greatest number that size bytes hold, and 0 of a size
// that no number has: each size adds its upper half to what the next one holds.
func greatest(size int) uint64 {
	var most uint64
	switch size {
	case 8:
		most |= 0xFFFFFFFF00000000
		fallthrough
	case 4:
		most |= 0xFFFF0000
		fallthrough
	case 2:
		most |= 0xFF00
		fallthrough
	case 1:
		most |= 0xFF
	}
	return most
}
