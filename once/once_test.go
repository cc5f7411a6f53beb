package once_test

import (
	"fmt"
	"math"
	"testing"

	"corncrib/api"
	"corncrib/once"
	"corncrib/sample"
	"corncrib/wire"
)

// corn tells an answer to a place's request with an Id, from the place 2. By who
// asked it has a code, and no needle, one that is gone, or data.
func corn(to int, id uint64) wire.Msg {
	i := to + 7*int(id%1000)
	m := wire.Msg{From: 2, To: to, Kind: wire.Answer, Vol: 1 + i%9, Life: i, Id: id, Code: i % 256}
	if i%4 > 0 {
		m.Has, m.N = true, api.Needle{Key: id, Cookie: uint32(i), Gone: i%4 == 1}
	}
	if i%4 > 1 {
		m.N.Data = sample.Bytes(i % 9)
	}
	return m
}

// other tells an answer to the same request in which all else is otherwise.
func other(m wire.Msg) wire.Msg {
	o := wire.Msg{From: 255 - m.From, To: m.To, Kind: wire.Answer, Vol: m.Vol + 1, Life: m.Life + 1, Id: m.Id, Code: 255 - m.Code}
	if !m.Has {
		o.Has, o.N = true, api.Needle{Key: 5, Cookie: 6, Data: []byte("rye")}
	}
	return o
}

// corns tells answers to one place's requests, with the Ids from 0 on, so many.
func corns(n int) []wire.Msg {
	l := make([]wire.Msg, n)
	for i := range l {
		l[i] = corn(9, uint64(i))
	}
	return l
}

// table tells a table for so many.
func table(t *testing.T, most int) *once.Table {
	t.Helper()
	x, e := once.New(most)
	if e != nil || x == nil {
		t.Fatalf("P16.1: New of %d: %v, %v", most, x, e)
	}
	return x
}

// tableOf tells a table for so many in which these answers are kept.
func tableOf(t *testing.T, most int, l []wire.Msg) *once.Table {
	t.Helper()
	x := table(t, most)
	for i, m := range l {
		code(t, fmt.Sprint("Keep of answer ", i, " in a table for ", most), x.Keep(m), 0)
		if x.Len() != i+1 || x.Room() != (i+1 < most) {
			t.Fatalf("P16.2: %d kept in a table for %d: Len %d, Room %v", i+1, most, x.Len(), x.Room())
		}
	}
	return x
}

// brief tells a message without most of its data, so that a fault is told in one line.
func brief(m wire.Msg) wire.Msg {
	m.N.Data = m.N.Data[:min(len(m.N.Data), 20)]
	return m
}

// code asks that an error is of this code, and of no other.
func code(t *testing.T, why string, e error, want api.Code) {
	t.Helper()
	if !sample.Is(e, want) {
		t.Errorf("P16.1: %s: %v; want code %d", why, e, want)
	}
}

// noFind asks that Find tells an error of this code, and no message beside it.
func noFind(t *testing.T, why string, x *once.Table, from int, id uint64, want api.Code) {
	t.Helper()
	m, e := x.Find(from, id)
	if !sample.Is(e, want) {
		t.Errorf("P16.1: %s: Find of %d, %d: %v; want code %d", why, from, id, e, want)
	}
	if !wire.Same(m, wire.Msg{}) {
		t.Errorf("P16.1: %s: Find of %d, %d: beside an error %+v", why, from, id, brief(m))
	}
}

// asked is a request.
type asked struct {
	from int
	id   uint64
}

// near are requests next to one, and those that would be alike to it, if its numbers
// were cut to 1, 2 or 4 bytes, laid into one, or taken for each other.
func near(k asked) []asked {
	l := []asked{
		{k.from - 1, k.id}, {k.from + 1, k.id}, {-k.from, k.id}, {k.from + 256, k.id}, {k.from + 1<<32, k.id},
		{k.from, k.id - 1}, {k.from, k.id + 1}, {k.from, -k.id}, {k.from, ^k.id}, {int(k.id), uint64(k.from)},
		{k.from - 1, k.id + 1}, {k.from + 1, k.id - 1}, {k.from + 1, k.id - 256}, {k.from - 1, k.id + 256}, {k.from ^ 1, k.id ^ 1},
	}
	for bit := range 64 {
		l = append(l, asked{k.from, k.id ^ 1<<bit})
	}
	return l
}

// holds asks that just these answers are kept, in a table for so many: Len, Room,
// each is found, as it was, and no other one is.
func holds(t *testing.T, why string, x *once.Table, most int, want []wire.Msg) {
	t.Helper()
	if x.Len() != len(want) || x.Room() != (len(want) < most) {
		t.Fatalf("P16.2: %s: Len %d, Room %v; want %d of %d", why, x.Len(), x.Room(), len(want), most)
	}
	kept := map[asked]int{}
	for i, w := range want {
		kept[asked{w.To, w.Id}] = i
		if m, e := x.Find(w.To, w.Id); e != nil || !wire.Same(m, w) {
			t.Fatalf("P16.3: %s: Find of %d, %d: %+v, %v; want %+v", why, w.To, w.Id, brief(m), e, brief(w))
		}
	}
	for k := range kept {
		// Of a great table some of them do.
		if len(kept) > 64 && k.id%64 != 0 {
			continue
		}
		for _, n := range near(k) {
			if _, there := kept[n]; !there {
				noFind(t, why, x, n.from, n.id, api.ErrNone)
			}
		}
	}
}

// far are numbers that no place has, among them those that would be right if they
// went round, or were cut to 1, 2 or 4 bytes.
var far = []int{
	math.MinInt, math.MinInt + 1, math.MinInt + 9, -1 << 32, -1<<32 + 9, math.MinInt32, -65536, -65527, -256, -247, -9, -1,
	256, 257, 265, 511, 512, 65535, 65536, 65545, math.MaxInt32, 1 << 31, math.MaxUint32, 1 << 32, 1<<32 + 9, math.MaxInt - 1, math.MaxInt,
}

// ids are such as a request may have.
var ids = []uint64{0, 1, 9, 255, 256, 4095, 4096, math.MaxInt32, math.MaxUint32, 1 << 32, math.MaxInt64, 1 << 63, math.MaxUint64 - 1, math.MaxUint64}

func TestNew(t *testing.T) {
	for _, most := range []int{1, 2, 3, 255, 256, 4095, 4096} {
		holds(t, fmt.Sprint("New of ", most), table(t, most), most, nil)
	}
	for _, most := range append([]int{0, 4097, 4098, 8192, 1<<16 + 1, 1<<32 + 4096, math.MinInt + 4096}, far...) {
		if most >= 1 && most <= 4096 {
			continue
		}
		x, e := once.New(most)
		code(t, fmt.Sprint("New of ", most), e, api.ErrArg)
		if x != nil {
			t.Errorf("P16.1: New of %d tells a table beside the error", most)
		}
	}
}

func TestNewTellsAnotherTable(t *testing.T) {
	a, b := table(t, 2), table(t, 2)
	code(t, "Keep in one table", a.Keep(corn(9, 4)), 0)
	holds(t, "another table", b, 2, nil)
	code(t, "Keep in another table", b.Keep(other(corn(9, 4))), 0)
	holds(t, "one table", a, 2, []wire.Msg{corn(9, 4)})
	b.Clear()
	holds(t, "one table, with another one cleared", a, 2, []wire.Msg{corn(9, 4)})
	holds(t, "another table, cleared", b, 2, nil)
}

func TestNoTable(t *testing.T) {
	var x *once.Table
	code(t, "Keep in no table", x.Keep(corn(9, 4)), api.ErrNil)
	for why, r := range refusals() {
		code(t, "Keep in no table of what has "+why, x.Keep(r.m), api.ErrNil)
	}
	for _, kind := range noAnswers {
		m := corn(9, 4)
		m.Kind = kind
		code(t, fmt.Sprint("Keep in no table of the kind ", kind), x.Keep(m), api.ErrNil)
	}
	for _, from := range append([]int{0, 1, 9, 254, 255}, far...) {
		for _, id := range ids {
			noFind(t, "no table", x, from, id, api.ErrNil)
		}
	}
	for range 2 {
		x.Clear()
		if x.Room() || x.Len() != 0 {
			t.Errorf("P16.2: no table: Room %v, Len %d", x.Room(), x.Len())
		}
	}
	code(t, "Keep in no table, behind Clear", x.Keep(corn(9, 4)), api.ErrNil)
}

// empties tells tables for 3 that hold nothing, by how they came about.
func empties(t *testing.T) map[string]*once.Table {
	t.Helper()
	refused := table(t, 3)
	for why, r := range refusals() {
		code(t, "Keep of what has "+why, refused.Keep(r.m), r.want)
	}
	cleared, full := tableOf(t, 3, corns(1)), tableOf(t, 3, corns(3))
	twice := table(t, 3)
	for range 2 {
		twice.Clear()
	}
	cleared.Clear()
	full.Clear()
	return map[string]*once.Table{
		"that New told":               table(t, 3),
		"that refused what came":      refused,
		"that was cleared":            cleared,
		"that was full, and cleared":  full,
		"that was cleared when empty": twice,
	}
}

func TestNothingKept(t *testing.T) {
	for why, x := range empties(t) {
		why = "a table " + why
		for _, from := range append([]int{0, 1, 9, 254, 255}, far...) {
			for _, id := range ids {
				noFind(t, why, x, from, id, api.ErrNone)
			}
		}
		holds(t, why, x, 3, nil)
		x.Clear()
		holds(t, why+", cleared", x, 3, nil)
		// It is as good as another one.
		for i, m := range corns(3) {
			code(t, why+": Keep", x.Keep(m), 0)
			holds(t, why, x, 3, corns(i+1))
		}
		code(t, why+": Keep of the fourth", x.Keep(corn(9, 3)), api.ErrFull)
		holds(t, why, x, 3, corns(3))
	}
}

func TestTableThatNewDidNotTell(t *testing.T) {
	// The chapter says nothing of it, but R1 does: no call panics.
	x := &once.Table{}
	for range 2 {
		holds(t, "a table that New didn't tell", x, 0, nil)
		noFind(t, "a table that New didn't tell", x, 9, 4, api.ErrNone)
		code(t, "Keep in a table that New didn't tell", x.Keep(corn(9, 4)), api.ErrFull)
		for why, r := range refusals() {
			code(t, "Keep in a table that New didn't tell of what has "+why, x.Keep(r.m), r.want)
		}
		x.Clear()
	}
}

func TestExample(t *testing.T) {
	x := table(t, 1)
	want := wire.Msg{From: 2, To: 9, Kind: wire.Answer, Vol: 3, Life: 1, Id: 40, Code: 8, Has: true}
	want.N = api.Needle{Key: 7, Cookie: 5, Data: []byte("maize")}
	if e := x.Keep(want); e != nil {
		t.Errorf("P16.1: Keep: %v", e)
	}
	if m, e := x.Find(9, 40); e != nil || !wire.Same(m, want) {
		t.Errorf("P16.3: Find: %+v, %v; want %+v", m, e, want)
	}
}
