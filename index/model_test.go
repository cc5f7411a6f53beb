package index_test

import (
	"fmt"
	"maps"
	"slices"
	"testing"

	"corncrib/api"
	"corncrib/index"
	"corncrib/sample"
)

// model is an index in other words: a map, in which all is looked through.
type model map[uint64]api.Pos

func (m model) put(p api.Pos) bool {
	if _, there := m[p.Key]; !there && len(m) == 4096 {
		return false
	}
	m[p.Key] = p
	return true
}

// from tells as From does: one key after the other is the smallest that is left.
func (m model) from(key uint64, most int) []api.Pos {
	var l []api.Pos
	for _, k := range slices.Sorted(maps.Keys(m)) {
		if k >= key && len(l) < most {
			l = append(l, m[k])
		}
	}
	return l
}

const callSize = 5 // bytes of a call

// both are an index and its model, and what they were ahead of a Clone.
type both struct {
	x, elder *index.Index
	m, old   model
}

// do does a call, as bytes say it, and tells what it told wrongly.
func (b *both) do(call []byte) string {
	// One of 16 keys that are spread over all numbers, or one beside it.
	key := uint64(call[1])<<60 + uint64(call[2]%3) - 1
	most := int(call[3])%12 - 2
	p := api.Pos{Key: key, Off: int(call[3]), Len: int(call[2]), Cookie: uint32(call[4]), Gone: call[4]%2 == 1}
	switch call[0] % 12 {
	case 0:
		b.elder, b.old = b.x, maps.Clone(b.m)
		b.x = b.x.Clone()
	case 1:
		b.x, b.m, b.elder, b.old = b.elder, b.old, b.x, b.m
	case 2:
		b.x = index.New(b.m.from(0, 4096))
	case 3:
		if got, want := b.x.From(key, most), b.m.from(key, most); !slices.Equal(got, want) {
			return fmt.Sprint("From ", key, ", ", most, ": ", told(got), "; want ", told(want))
		}
	case 4:
		got, e := b.x.Find(key)
		if want, there := b.m[key]; got != want || there != (e == nil) || !there && !sample.Is(e, api.ErrNone) {
			return fmt.Sprint("Find of ", key, ": ", got, e, "; want ", want, there)
		}
	default:
		e := b.x.Put(p)
		if want := b.m.put(p); want != (e == nil) || !want && !sample.Is(e, api.ErrFull) {
			return fmt.Sprint("Put of ", p, ": ", e, "; want ", want)
		}
	}
	return ""
}

// run does one call behind the other, from an index of these positions on.
func run(t *testing.T, begin []api.Pos, script []byte) {
	t.Helper()
	b := both{x: index.New(begin), m: model{}, elder: index.New(nil), old: model{}}
	for _, p := range begin {
		b.m.put(p)
	}
	for n := 0; len(script) >= callSize; script = script[callSize:] {
		if wrong := b.do(script[:callSize]); wrong != "" {
			t.Fatalf("P8.1: call %d: %s", n, wrong)
		}
		if n++; len(begin) > 100 && n%40 > 0 && len(script) >= 2*callSize {
			continue // all of many is looked at now and then, and in the end
		}
		has(t, fmt.Sprint("P8.2: behind call ", n), b.x, b.m.from(0, 4096)...)
		has(t, fmt.Sprint("P8.2: the one beside, behind call ", n), b.elder, b.old.from(0, 4096)...)
	}
}

func TestAsTheModel(t *testing.T) {
	for i := range 60 {
		run(t, nil, sample.Bytes(1200+i))
	}
	// So many that there is no room now and then.
	for i := range 6 {
		run(t, many(4096-10*i), sample.Bytes(1500+i))
	}
}

func FuzzAsTheModel(f *testing.F) {
	f.Add(0, sample.Bytes(200))
	f.Add(30, sample.Bytes(100))
	f.Fuzz(func(t *testing.T, n int, script []byte) {
		run(t, many(min(max(n, 0), 60)), script)
	})
}
