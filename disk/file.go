package disk

import (
	"slices"
	"strings"
)

// file has its bytes under whatever name. One without a name any more is kept
// as long as a deed of names may be taken back.
type file struct {
	number int // of those that were created
	b      []byte
	lasts  int // how many of the first bytes
}

// fall leaves what lasts, and what is picked of the bytes behind.
func (f *file) fall(p Pick) {
	kept := within(p.Keep, len(f.b)-f.lasts)
	f.b = f.b[:f.lasts+kept]
	if kept > 0 {
		f.b[len(f.b)-1] ^= p.Turn
	}
	f.lasts = len(f.b)
}

// deed takes a file from a name to another one. One that is created has no name
// ahead of it, one that is removed has none behind: "" is no file's name.
type deed struct {
	from, to string
	f        *file
}

// table tells what has which name, by the names.
type table []entry

type entry struct {
	name string
	f    *file
}

// place tells where a name stands, or would stand, and whether it is there.
func (t table) place(name string) (int, bool) {
	return slices.BinarySearchFunc(t, name, func(e entry, name string) int {
		return strings.Compare(e.name, name)
	})
}

// behind tells the table behind a deed, in the same memory.
func (t table) behind(x deed) table {
	// The name that it had goes first: it may be the one that it gets.
	if i, there := t.place(x.from); there {
		t = slices.Delete(t, i, i+1)
	}
	if x.to == "" {
		return t
	}
	i, there := t.place(x.to)
	if there {
		t[i].f = x.f
		return t
	}
	return slices.Insert(t, i, entry{x.to, x.f})
}
