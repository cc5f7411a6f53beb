package once_test

import (
	"bytes"
	"fmt"
	"math"
	"testing"

	"corncrib/api"
	"corncrib/once"
	"corncrib/sample"
	"corncrib/wire"
)

// noAnswers are kinds that an answer hasn't.
var noAnswers = append([]int{wire.Put, wire.Lay, wire.Get, wire.Del, 0, 6, 7, 261, 65541, 1<<32 + 5, math.MinInt + 5}, far...)

// refusal is a message that may not be, and why.
type refusal struct {
	m    wire.Msg
	want api.Code
}

// refusals are answers to 9's request 4 but for what is wrong, by what it is.
func refusals() map[string]refusal {
	all := map[string]refusal{}
	add := func(why string, want api.Code, change func(m *wire.Msg)) {
		m := wire.Msg{From: 2, To: 9, Kind: wire.Answer, Vol: 3, Life: 1, Id: 4, Has: true, N: api.Needle{Key: 7, Cookie: 5}}
		change(&m)
		all[why] = refusal{m, want}
	}
	for _, n := range append([]int{-2, 1 << 33}, far...) {
		add(fmt.Sprint("From ", n), api.ErrArg, func(m *wire.Msg) { m.From = n })
		add(fmt.Sprint("To ", n), api.ErrArg, func(m *wire.Msg) { m.To = n })
		add(fmt.Sprint("the code ", n), api.ErrArg, func(m *wire.Msg) { m.Code = n })
		if n < 0 || n > 65535 {
			add(fmt.Sprint("the volume ", n), api.ErrArg, func(m *wire.Msg) { m.Vol = n })
		}
		if n < 0 || n > math.MaxInt32 {
			add(fmt.Sprint("the life ", n), api.ErrArg, func(m *wire.Msg) { m.Life = n })
		}
	}
	add("the volume 0", api.ErrArg, func(m *wire.Msg) { m.Vol = 0 })
	add("no needle, but a key", api.ErrArg, func(m *wire.Msg) { m.Has, m.N = false, api.Needle{Key: 1} })
	add("no needle, but a cookie", api.ErrArg, func(m *wire.Msg) { m.Has, m.N = false, api.Needle{Cookie: 1} })
	add("no needle, but one that is gone", api.ErrArg, func(m *wire.Msg) { m.Has, m.N = false, api.Needle{Gone: true} })
	add("no needle, but data", api.ErrArg, func(m *wire.Msg) { m.Has, m.N = false, api.Needle{Data: []byte{0}} })
	add("no needle, but too much data", api.ErrArg, func(m *wire.Msg) { m.Has, m.N = false, api.Needle{Data: make([]byte, 4097)} })
	add("gone, with data", api.ErrArg, func(m *wire.Msg) { m.N.Gone, m.N.Data = true, []byte{0} })
	add("data of 4097", api.ErrLong, func(m *wire.Msg) { m.N.Data = make([]byte, 4097) })
	add("gone, with data of 4097", api.ErrLong, func(m *wire.Msg) { m.N.Gone, m.N.Data = true, make([]byte, 4097) })
	add("much data", api.ErrLong, func(m *wire.Msg) { m.N.Data = make([]byte, 1<<16) })
	add("From 256, and data of 4097", api.ErrArg, func(m *wire.Msg) { m.From, m.N.Data = 256, make([]byte, 4097) })
	return all
}

// filled is a table for so many, and the answers that it holds.
type filled struct {
	x    *once.Table
	most int
	l    []wire.Msg
}

// held tells tables, by what they hold: nothing, the answer to 9's request 4, and
// as many as there is room for, with it and without.
func held(t *testing.T) map[string]filled {
	t.Helper()
	of := func(most int, l ...wire.Msg) filled {
		return filled{tableOf(t, most, l), most, l}
	}
	return map[string]filled{
		"that is empty":         of(1),
		"with one like it":      of(2, corn(9, 4)),
		"full, with one of it":  of(1, corn(9, 4)),
		"full, with others":     of(2, corn(9, 3), corn(8, 4)),
		"full, and it is last":  of(3, corn(9, 3), corn(8, 4), corn(9, 4)),
		"full, and it is first": of(3, corn(9, 4), corn(8, 4), corn(9, 5)),
	}
}

func TestKeepOfWhatIsRefused(t *testing.T) {
	for what, h := range held(t) {
		for why, r := range refusals() {
			if e := h.x.Keep(r.m); !sample.Is(e, r.want) || e != wire.Check(r.m) {
				t.Errorf("P16.1: Keep in a table %s of what has %s: %v; want code %d", what, why, e, r.want)
			}
			holds(t, "a table "+what+", behind Keep of what has "+why, h.x, h.most, h.l)
		}
	}
}

func TestKeepOfWhatIsNoAnswer(t *testing.T) {
	long := api.Needle{Key: 7, Cookie: 5, Data: make([]byte, 4097)}
	for what, h := range held(t) {
		for _, kind := range noAnswers {
			ask := wire.Msg{From: 2, To: 9, Kind: kind, Vol: 3, Life: 1, Id: 4}
			needle := ask
			needle.Has, needle.N = true, api.Needle{Key: 7, Cookie: 5, Data: []byte("maize")}
			// wire.Check tells ErrLong of a request with such a needle.
			tooLong := ask
			tooLong.Has, tooLong.N = true, long
			goneToo := tooLong
			goneToo.N.Gone = true
			for _, m := range []wire.Msg{ask, needle, tooLong, goneToo} {
				code(t, fmt.Sprintf("Keep in a table %s of %+v", what, brief(m)), h.x.Keep(m), api.ErrArg)
			}
			for why, r := range refusals() {
				r.m.Kind = kind
				code(t, fmt.Sprint("Keep in a table ", what, " of the kind ", kind, ", which has ", why), h.x.Keep(r.m), api.ErrArg)
			}
		}
		holds(t, "a table "+what+", behind Keep of what is no answer", h.x, h.most, h.l)
	}
}

func TestKeepOfASecondOne(t *testing.T) {
	for _, most := range []int{1, 2, 3} {
		for _, first := range []wire.Msg{corn(0, 0), corn(9, 4), corn(9, 5), corn(255, math.MaxUint64), corn(10, 4)} {
			l := []wire.Msg{first}
			x := tableOf(t, most, l)
			for _, second := range seconds(first) {
				code(t, fmt.Sprintf("Keep of %+v behind %+v, of %d", brief(second), brief(first), most), x.Keep(second), api.ErrThere)
				holds(t, "behind Keep of a second one", x, most, l)
			}
		}
	}
}

// seconds are answers to the same request, in which nothing, one thing or all is
// otherwise.
func seconds(m wire.Msg) []wire.Msg {
	l := []wire.Msg{m, other(m)}
	for _, change := range []func(m *wire.Msg){
		func(m *wire.Msg) { m.From = 255 - m.From },
		func(m *wire.Msg) { m.From = m.To },
		func(m *wire.Msg) { m.Vol++ },
		func(m *wire.Msg) { m.Life++ },
		func(m *wire.Msg) { m.Code = 255 - m.Code },
		func(m *wire.Msg) { m.Has, m.N = !m.Has, api.Needle{} },
		func(m *wire.Msg) { m.Has, m.N = true, api.Needle{Key: m.N.Key + 1} },
		func(m *wire.Msg) { m.Has, m.N = true, api.Needle{Key: m.N.Key, Cookie: m.N.Cookie + 1} },
		func(m *wire.Msg) { m.Has, m.N = true, api.Needle{Key: m.N.Key, Gone: !m.N.Gone} },
		func(m *wire.Msg) { m.Has, m.N = true, api.Needle{Key: m.N.Key, Data: sample.Bytes(4096)} },
	} {
		s := m
		change(&s)
		l = append(l, s)
	}
	return l
}

func TestWhoAskedIsThePlaceAndTheId(t *testing.T) {
	var l []wire.Msg
	for _, to := range []int{0, 1, 2, 9, 127, 128, 254, 255} {
		for _, id := range ids {
			l = append(l, corn(to, id))
		}
	}
	x := tableOf(t, len(l)+1, l)
	holds(t, "all places with all Ids", x, len(l)+1, l)
	for _, m := range l {
		code(t, fmt.Sprintf("Keep of a second one for %d, %d", m.To, m.Id), x.Keep(other(m)), api.ErrThere)
	}
	holds(t, "all places with all Ids, behind second ones", x, len(l)+1, l)
}

func TestFromIsNoPartOfIt(t *testing.T) {
	// Who answers may be any place, also one that asked itself.
	for _, from := range []int{0, 1, 9, 255} {
		m := corn(9, 4)
		m.From = from
		x := tableOf(t, 3, []wire.Msg{m})
		for _, again := range []int{0, 1, 9, 255} {
			m2 := m
			m2.From = again
			code(t, fmt.Sprint("Keep of one from ", again, " behind one from ", from), x.Keep(m2), api.ErrThere)
			if again != 9 {
				noFind(t, fmt.Sprint("one from ", from), x, again, 4, api.ErrNone)
			}
		}
		turned := m
		turned.From, turned.To = 9, 1
		code(t, "Keep of one to another place", x.Keep(turned), 0)
		holds(t, "the same Id to another place", x, 3, []wire.Msg{m, turned})
	}
}

func TestRoom(t *testing.T) {
	for _, most := range []int{1, 2, 3, 4095, 4096} {
		l := corns(most)
		x := tableOf(t, most, l)
		holds(t, fmt.Sprint("a full table for ", most), x, most, l)
		for _, m := range []wire.Msg{corn(9, uint64(most)), corn(8, 0), corn(0, math.MaxUint64)} {
			code(t, fmt.Sprint("Keep of one more than ", most), x.Keep(m), api.ErrFull)
			noFind(t, fmt.Sprint("one more than ", most), x, m.To, m.Id, api.ErrNone)
		}
		for _, i := range []int{0, most / 2, most - 1} {
			code(t, fmt.Sprint("Keep of a second one of ", most), x.Keep(other(l[i])), api.ErrThere)
		}
		for why, r := range refusals() {
			code(t, fmt.Sprint("Keep of one more than ", most, ", with ", why), x.Keep(r.m), r.want)
		}
		holds(t, fmt.Sprint("a full table for ", most, ", behind errors"), x, most, l)
		x.Clear()
		holds(t, fmt.Sprint("a full table for ", most, ", cleared"), x, most, nil)
		again := make([]wire.Msg, most)
		for i, m := range l {
			again[i] = other(m)
			code(t, fmt.Sprint("Keep of ", i, " behind Clear"), x.Keep(again[i]), 0)
		}
		code(t, fmt.Sprint("Keep of one more than ", most, ", behind Clear"), x.Keep(corn(8, 0)), api.ErrFull)
		holds(t, fmt.Sprint("a table for ", most, ", full again"), x, most, again)
	}
}

// edges are answers whose numbers are at their ends, of each code, with needles of
// all sizes and without, each to another request.
func edges() []wire.Msg {
	l := []wire.Msg{
		{Vol: 1},
		{From: 255, To: 255, Vol: 65535, Life: math.MaxInt32, Id: math.MaxUint64, Code: 255},
		{From: 0, To: 255, Vol: 65535, Life: 1 << 30, Id: 1 << 63, Code: 1},
		{From: 255, To: 0, Vol: 256, Life: 65536, Id: 1 << 32, Code: 128},
		{To: 1, Vol: 7, N: api.Needle{Data: []byte{}}},
		{To: 1, Vol: 7, Id: 1, Has: true},
		{To: 1, Vol: 7, Id: 2, Has: true, N: api.Needle{Data: []byte{}}},
		{To: 1, Vol: 7, Id: 3, Has: true, N: api.Needle{Key: 5, Cookie: 6, Gone: true}},
		{To: 1, Vol: 7, Id: 4, Has: true, N: api.Needle{Gone: true, Data: []byte{}}},
		{To: 1, Vol: 7, Id: 5, Has: true, N: api.Needle{Key: math.MaxUint64, Cookie: math.MaxUint32, Gone: true}},
	}
	for _, size := range []int{1, 2, 7, 8, 9, 255, 256, 4095, 4096} {
		l = append(l, wire.Msg{From: 2, To: 3, Vol: 7, Life: 1, Id: uint64(size), Has: true, N: api.Needle{
			Key: math.MaxUint64, Cookie: math.MaxUint32, Data: sample.Bytes(size),
		}})
	}
	for code := range 256 {
		l = append(l, wire.Msg{From: 1, To: 2, Vol: 1, Code: code, Id: uint64(code)})
	}
	for i := range l {
		l[i].Kind = wire.Answer
	}
	return l
}

func TestWhatIsFoundIsAsItWasKept(t *testing.T) {
	l := edges()
	x := tableOf(t, 4096, l)
	for range 2 {
		holds(t, "answers at their ends", x, 4096, l)
	}
	// Whatever comes behind it: what the table forgets none of is as it was.
	all := l
	for i := 0; len(all) < 4096; i++ {
		m := corn(4+i%200, uint64(i))
		code(t, "Keep behind answers at their ends", x.Keep(m), 0)
		all = append(all, m)
	}
	code(t, "Keep of one more", x.Keep(corn(3, 0)), api.ErrFull)
	holds(t, "answers at their ends, and others up to 4096", x, 4096, all)
}

func TestFindOfWhatIsNotThere(t *testing.T) {
	l := []wire.Msg{corn(9, 4), corn(0, 0), corn(255, math.MaxUint64)}
	x := tableOf(t, 4, l)
	for range 2 {
		for _, from := range far {
			for _, id := range append([]uint64{4}, ids...) {
				noFind(t, "a place that can't be", x, from, id, api.ErrNone)
			}
		}
		for _, k := range []asked{{9, 0}, {9, math.MaxUint64}, {9, 5}, {0, 4}, {0, math.MaxUint64}, {255, 0}, {255, 4}, {4, 9}, {8, 4}, {2, 4}} {
			noFind(t, "another place or Id", x, k.from, k.id, api.ErrNone)
		}
		holds(t, "behind Find of what isn't there", x, 4, l)
	}
	// What can't be found is not there, either: there is room for it.
	code(t, "Keep behind Find of it", x.Keep(corn(9, 5)), 0)
	holds(t, "behind Keep of what wasn't there", x, 4, append(l, corn(9, 5)))
}

func TestClear(t *testing.T) {
	l := []wire.Msg{corn(9, 4), corn(8, 4), corn(9, 5)}
	x := tableOf(t, 3, l)
	found, _ := x.Find(9, 5)
	for round := range 3 {
		x.Clear()
		for range round {
			x.Clear()
		}
		holds(t, "behind Clear", x, 3, nil)
		for _, m := range l {
			noFind(t, "behind Clear", x, m.To, m.Id, api.ErrNone)
		}
		// What was forgotten says nothing of what is kept next.
		again := []wire.Msg{other(l[2]), l[0]}
		for i, m := range again {
			code(t, "Keep behind Clear", x.Keep(m), 0)
			holds(t, "kept behind Clear", x, 3, again[:i+1])
		}
		code(t, "Keep of a second one behind Clear", x.Keep(l[2]), api.ErrThere)
	}
	if !wire.Same(found, l[2]) {
		t.Errorf("P16.2: Clear changes what Find told: %+v", found)
	}
}

func TestWhatIsKeptIsNobodyElses(t *testing.T) {
	for _, size := range []int{1, 5, 8, 4096} {
		room := append(sample.Bytes(size), 1, 2, 3, 4, 5, 6, 7, 8)
		before := bytes.Clone(room)
		sent := corn(9, 4)
		sent.Has, sent.N = true, api.Needle{Key: 7, Data: room[:size]}
		want := sent
		want.N.Data = bytes.Clone(sent.N.Data)
		x := tableOf(t, 2, []wire.Msg{sent})
		found, _ := x.Find(9, 4)
		last, _ := x.Find(9, 4)
		sample.Spoil(found.N.Data)
		if !bytes.Equal(room, before) {
			t.Errorf("P16.1: data of %d: what was handed in, or the room behind, is changed", size)
		}
		if !wire.Same(last, want) {
			t.Errorf("P16.1: data of %d: what Find tells is somebody else's", size)
		}
		holds(t, "behind changes of what Find told", x, 2, []wire.Msg{want})
		sample.Spoil(last.N.Data)
		holds(t, "behind changes of what Find told again", x, 2, []wire.Msg{want})
		last, _ = x.Find(9, 4)
		sample.Spoil(room)
		if !wire.Same(last, want) {
			t.Errorf("P16.1: data of %d: what Find tells is what was handed in", size)
		}
		holds(t, "behind changes of what was handed in", x, 2, []wire.Msg{want})
		// Nor is it of one that was refused.
		second := want
		second.N.Data = bytes.Clone(want.N.Data)
		code(t, "Keep of a second one", x.Keep(second), api.ErrThere)
		sample.Spoil(second.N.Data)
		holds(t, "behind changes of a second one", x, 2, []wire.Msg{want})
	}
}

func TestKeepLeavesWhatIsHandedIn(t *testing.T) {
	for _, size := range []int{0, 1, 8, 4096, 4097} {
		for _, has := range []bool{true, false} {
			room := append(sample.Bytes(size), 1, 2, 3, 4, 5, 6, 7, 8)
			before := bytes.Clone(room)
			m := corn(9, 4)
			m.Has, m.N = has, api.Needle{Key: 7, Data: room[:size]}
			same := m
			x := table(t, 2)
			for range 3 {
				x.Keep(m)
				x.Find(9, 4)
			}
			x.Clear()
			if !bytes.Equal(room, before) || !wire.Same(m, same) {
				t.Errorf("P16.1: data of %d: what was handed in, or the room behind, is changed", size)
			}
		}
	}
}
