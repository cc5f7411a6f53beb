package dirs_test

import (
	"bytes"
	"fmt"
	"slices"
	"testing"

	"corncrib/api"
	"corncrib/dirs"
	"corncrib/sample"
)

// replayed asks what Replay tells: a map that stands so, and how many had no error.
// The list stays as it is, and so does the room behind it.
func replayed(t *testing.T, why string, l []dirs.Cmd, want []dirs.Entry, done int) *dirs.Map {
	t.Helper()
	room := append(slices.Clone(l), making(91, 92, 93), making(94, 95, 96))
	before := slices.Clone(room)
	m, n := dirs.Replay(room[:len(l)])
	if m == nil || n != done {
		t.Fatalf("P19.2: %s: Replay: %v, %d; want a map, %d", why, m, n, done)
	}
	stands(t, why, m, want)
	if !slices.Equal(room, before) {
		t.Fatalf("P19.2: %s: Replay changes the list that is handed in", why)
	}
	return m
}

func TestReplayOfNothing(t *testing.T) {
	for _, l := range [][]dirs.Cmd{nil, {}, make([]dirs.Cmd, 0, 5)} {
		m := replayed(t, "no commands", l, nil, 0)
		does(t, "behind no commands", m, making(1, 2, 3), 1)
	}
}

func TestReplayOfErrorsAlone(t *testing.T) {
	l := []dirs.Cmd{{}, {Kind: 5}, {Kind: -1}, making(1, 1, 2), making(-1, 0, 1), making(0, 1, 256), sealing(1, 1), opening(1, 1), replacing(1, 1, 0, 5), sealing(0, 0)}
	m := replayed(t, "errors alone", l, nil, 0)
	does(t, "behind errors alone", m, making(1, 2, 3), 1)
	for i := range l {
		replayed(t, "one error", l[i:i+1], nil, 0)
	}
}

// mix are commands with and without errors, one behind the other, and what they make.
var mix = []struct {
	c    dirs.Cmd
	n    int
	code api.Code
}{
	{sealing(1, 1), 0, api.ErrNone},
	{making(1, 2, 3), 1, 0},
	{making(1, 2, 2), 0, api.ErrArg},
	{making(4, 5, 6), 2, 0},
	{sealing(2, 1), 2, 0},
	{sealing(2, 1), 0, api.ErrStale},
	{sealing(2, 2), 0, api.ErrSealed},
	{dirs.Cmd{Kind: 9, Vol: 2, Epoch: 2}, 0, api.ErrArg},
	{replacing(2, 2, 3, 7), 0, api.ErrArg},
	{replacing(2, 2, 2, 4), 0, api.ErrThere},
	{replacing(2, 2, 2, 7), 3, 0},
	{opening(1, 1), 0, api.ErrThere},
	{replacing(1, 1, 0, 9), 2, 0},
	{opening(2, 3), 4, 0},
	{making(7, 8, 9), 3, 0},
	{sealing(4, 1), 0, api.ErrNone},
	{sealing(3, 1), 2, 0},
}

// mixed is what the mix makes.
var mixed = []dirs.Entry{
	{Vol: 1, Epoch: 2, Nodes: [3]int{9, 2, 3}},
	{Vol: 2, Epoch: 4, Nodes: [3]int{4, 5, 7}},
	{Vol: 3, Epoch: 2, Nodes: [3]int{7, 8, 9}, Sealed: true},
}

// mixedDone is how many of the mix have no error.
const mixedDone = 8

func TestReplayOfAMix(t *testing.T) {
	var l []dirs.Cmd
	one := dirs.New()
	done := 0
	for i, y := range mix {
		l = append(l, y.c)
		if y.code != 0 {
			refuses(t, "a mix", one, y.c, y.code)
		} else {
			does(t, "a mix", one, y.c, y.n)
			done++
		}
		// The map behind so many is the one that the commands made one by one.
		replayed(t, fmt.Sprint("the first ", i+1, " of a mix"), l, one.All(), done)
	}
	replayed(t, "a mix", l, mixed, mixedDone)
	stands(t, "a mix, one by one", one, mixed)
}

func TestReplayInParts(t *testing.T) {
	var l []dirs.Cmd
	for _, y := range mix {
		l = append(l, y.c)
	}
	for i := range len(l) + 1 {
		m, done := dirs.Replay(l[:i])
		for _, c := range l[i:] {
			if _, e := m.Do(c); e == nil {
				done++
			}
		}
		if done != mixedDone {
			t.Errorf("P19.2: in parts, %d and the rest: %d without an error; want %d", i, done, mixedDone)
		}
		stands(t, fmt.Sprint("in parts, ", i, " and the rest"), m, mixed)
	}
}

func TestReplaysAreApart(t *testing.T) {
	var l []dirs.Cmd
	for _, y := range mix {
		l = append(l, y.c)
	}
	a, b := replayed(t, "the first", l, mixed, mixedDone), replayed(t, "the second", l, mixed, mixedDone)
	does(t, "the first", a, sealing(1, 2), 3)
	does(t, "the first", a, making(1, 2, 3), 4)
	stands(t, "the second, behind a command of the first", b, mixed)
	// Nor does the map hang on the list that it came from.
	clear(l)
	stands(t, "behind a list that was cleared", b, mixed)
	does(t, "the second", b, making(4, 5, 6), 4)
}

func TestReplayOfMoreVolumesThanThereMayBe(t *testing.T) {
	_, want := full(t)
	var l []dirs.Cmd
	for i := range most + 100 {
		l = append(l, dirs.Cmd{Kind: 1, Nodes: row(i)})
	}
	replayed(t, "more than there may be", l, want, most)
	// What comes behind goes on.
	l = append(l, sealing(most, 1), sealing(most+1, 1), replacing(1, 1, 0, 77), making(1, 2, 3), opening(most, 2))
	want[most-1].Epoch = 3
	want[0].Epoch, want[0].Nodes[0] = 2, 77
	m := replayed(t, "more than there may be, and others", l, want, most+3)
	refuses(t, "more than there may be", m, making(1, 2, 3), api.ErrFull)
	// Such as can't be take no room.
	l = append([]dirs.Cmd{{}, making(1, 1, 1), sealing(1, 1), making(0, 1, 256)}, l...)
	replayed(t, "more than there may be, behind errors", l, want, most+3)
}

func TestTheSameCommandsMakeTheSameMap(t *testing.T) {
	for n := range 200 {
		l := commands(sample.Bytes(cmdSize*300 + n))
		a, done := dirs.Replay(l)
		b, again := dirs.Replay(slices.Clone(l))
		parts, inParts := dirs.Replay(l[:n])
		for _, c := range l[n:] {
			if _, e := parts.Do(c); e == nil {
				inParts++
			}
		}
		if done != again || done != inParts {
			t.Fatalf("P19.3: the same commands: %d, %d, %d without an error", done, again, inParts)
		}
		stands(t, "the same commands", b, a.All())
		stands(t, "the same commands in parts", parts, a.All())
		if !bytes.Equal(a.Bytes(), b.Bytes()) {
			t.Fatalf("P19.3: the same commands: Bytes %v and %v", a.Bytes(), b.Bytes())
		}
	}
}
