package dirs_test

import (
	"bytes"
	"fmt"
	"math"
	"slices"
	"testing"

	"corncrib/api"
	"corncrib/dirs"
	"corncrib/sample"
)

// most is how many volumes a map has at most.
const most = 4096

func making(head, middle, tail int) dirs.Cmd {
	return dirs.Cmd{Kind: 1, Nodes: [3]int{head, middle, tail}}
}

func sealing(volume, epoch int) dirs.Cmd {
	return dirs.Cmd{Kind: 2, Vol: volume, Epoch: epoch}
}

func opening(volume, epoch int) dirs.Cmd {
	return dirs.Cmd{Kind: 3, Vol: volume, Epoch: epoch}
}

func replacing(volume, epoch, at, node int) dirs.Cmd {
	return dirs.Cmd{Kind: 4, Vol: volume, Epoch: epoch, At: at, Node: node}
}

// far are numbers that are far off, among them those that would be small if they
// went round, or were cut to 1, 2 or 4 bytes.
var far = []int{
	math.MinInt, math.MinInt + 1, math.MinInt + 2, -1 << 32, -1<<32 + 1, math.MinInt32, -65536, -65535, -256, -255, -2, -1,
	256, 257, 258, 511, 65535, 65536, 65537, math.MaxInt32, 1 << 31, math.MaxUint32, 1 << 32, 1<<32 + 1, 1 << 62, math.MaxInt - 1, math.MaxInt,
}

// each tells numbers by size, none twice.
func each(l ...int) []int {
	slices.Sort(l)
	return slices.Compact(l)
}

// does asks that Do tells this number.
func does(t *testing.T, why string, m *dirs.Map, c dirs.Cmd, want int) {
	t.Helper()
	if n, e := m.Do(c); e != nil || n != want {
		t.Fatalf("P19.1: %s: Do of %+v: %d, %v; want %d", why, c, n, e, want)
	}
}

// refuses asks that Do tells an error of this code, 0 beside it, and changes nothing.
func refuses(t *testing.T, why string, m *dirs.Map, c dirs.Cmd, want api.Code) {
	t.Helper()
	l, b := m.All(), m.Bytes()
	if n, e := m.Do(c); !sample.Is(e, want) || n != 0 {
		t.Fatalf("P19.1: %s: Do of %+v: %d, %v; want 0, code %d", why, c, n, e, want)
	}
	if !slices.Equal(m.All(), l) || !bytes.Equal(m.Bytes(), b) {
		t.Fatalf("P19.3: %s: Do of %+v, with the code %d, changes the map to %v; it was %v", why, c, want, brief(m.All()), brief(l))
	}
}

// brief tells the first entries, so that a fault is told in one line.
func brief(l []dirs.Entry) []dirs.Entry {
	return l[:min(len(l), 10)]
}

// stands asks that a map has just these volumes, by all that it tells.
func stands(t *testing.T, why string, m *dirs.Map, want []dirs.Entry) {
	t.Helper()
	if l := m.All(); !slices.Equal(l, want) {
		t.Fatalf("P19.2: %s: All: %v; want %v", why, brief(l), brief(want))
	}
	for i, y := range want {
		if y.Vol != i+1 {
			t.Fatalf("%s: the volume %d is wanted as the entry %d", why, y.Vol, i)
		}
		if x, e := m.Find(i + 1); e != nil || x != y {
			t.Fatalf("P19.2: %s: Find of %d: %+v, %v; want %+v", why, i+1, x, e, y)
		}
	}
	for _, volume := range append([]int{0, -1, len(want) + 1, len(want) + 256, math.MinInt, math.MaxInt}, far...) {
		if volume >= 1 && volume <= len(want) {
			continue
		}
		if x, e := m.Find(volume); !sample.Is(e, api.ErrNone) || x != (dirs.Entry{}) {
			t.Fatalf("P19.2: %s: Find of %d of %d volumes: %+v, %v; want the zero entry, ErrNone", why, volume, len(want), x, e)
		}
	}
	on(t, why, m, want)
	if b := m.Bytes(); !bytes.Equal(b, laid(want)) {
		t.Fatalf("P19.2: %s: Bytes: %v; want %v", why, b[:min(len(b), 80)], laid(brief(want)))
	}
}

// on asks what On tells of each node that there may be, and of some that can't be.
func on(t *testing.T, why string, m *dirs.Map, want []dirs.Entry) {
	t.Helper()
	var volumes [256][]int
	for _, y := range want {
		for _, node := range y.Nodes {
			volumes[node] = append(volumes[node], y.Vol)
		}
	}
	for node := range volumes {
		if l := m.On(node); !slices.Equal(l, volumes[node]) {
			t.Fatalf("P19.2: %s: On of %d: %v; want %v", why, node, l, volumes[node])
		}
	}
	for _, node := range far {
		if l := m.On(node); len(l) != 0 {
			t.Fatalf("P19.2: %s: On of %d: %v; want nothing", why, node, l)
		}
	}
}

// laid tells the bytes of these volumes.
func laid(l []dirs.Entry) []byte {
	b := make([]byte, 8*len(l))
	for i, y := range l {
		b[8*i], b[8*i+1], b[8*i+2], b[8*i+3] = byte(y.Epoch%256), byte(y.Epoch/256%256), byte(y.Epoch/65536%256), byte(y.Epoch/16777216)
		b[8*i+4], b[8*i+5], b[8*i+6] = byte(y.Nodes[0]), byte(y.Nodes[1]), byte(y.Nodes[2])
		if y.Sealed {
			b[8*i+7] = 1
		}
	}
	return b
}

// corn tells a map with volumes of all kinds, and what it has.
func corn(t *testing.T) (*dirs.Map, []dirs.Entry) {
	t.Helper()
	m := dirs.New()
	for i, y := range [][3]int{{1, 2, 3}, {0, 255, 128}, {3, 2, 1}, {7, 8, 9}, {1, 8, 255}, {0, 1, 2}, {4, 5, 6}, {6, 5, 4}} {
		does(t, "a map of all kinds", m, making(y[0], y[1], y[2]), i+1)
	}
	for _, y := range []struct {
		c    dirs.Cmd
		want int
	}{
		{sealing(2, 1), 2},
		{sealing(3, 1), 2}, {opening(3, 2), 3},
		{replacing(4, 1, 0, 200), 2},
		{replacing(5, 1, 1, 0), 2}, {sealing(5, 2), 3},
		{sealing(6, 1), 2}, {replacing(6, 2, 2, 255), 3},
	} {
		does(t, "a map of all kinds", m, y.c, y.want)
	}
	turned(t, m, 7, 1, 301)
	turned(t, m, 8, 1, 258)
	return m, []dirs.Entry{
		{Vol: 1, Epoch: 1, Nodes: [3]int{1, 2, 3}},
		{Vol: 2, Epoch: 2, Nodes: [3]int{0, 255, 128}, Sealed: true},
		{Vol: 3, Epoch: 3, Nodes: [3]int{3, 2, 1}},
		{Vol: 4, Epoch: 2, Nodes: [3]int{200, 8, 9}},
		{Vol: 5, Epoch: 3, Nodes: [3]int{1, 0, 255}, Sealed: true},
		{Vol: 6, Epoch: 3, Nodes: [3]int{0, 1, 255}, Sealed: true},
		{Vol: 7, Epoch: 301, Nodes: [3]int{4, 5, 6}},
		{Vol: 8, Epoch: 258, Nodes: [3]int{6, 5, 4}, Sealed: true},
	}
}

// turned seals a volume that is open, and opens it again, by turns, from an odd epoch
// on to another one.
func turned(t *testing.T, m *dirs.Map, volume, from, to int) {
	t.Helper()
	for epoch := from; epoch < to; epoch++ {
		c := sealing(volume, epoch)
		if epoch%2 == 0 {
			c = opening(volume, epoch)
		}
		does(t, "by turns", m, c, epoch+1)
	}
}

// row tells three nodes that are not alike, by a number.
func row(i int) [3]int {
	return [3]int{i % 256, (i + 1 + i/256) % 256, (i + 128) % 256}
}

// full tells a map with as many volumes as there may be, and what it has.
func full(t *testing.T) (*dirs.Map, []dirs.Entry) {
	t.Helper()
	m := dirs.New()
	var l []dirs.Entry
	for i := range most {
		y := row(i)
		does(t, "up to the last one", m, making(y[0], y[1], y[2]), i+1)
		l = append(l, dirs.Entry{Vol: i + 1, Epoch: 1, Nodes: y})
	}
	return m, l
}

func TestExample(t *testing.T) {
	m := dirs.New()
	does(t, "the chapter's example", m, making(1, 2, 3), 1)
	stands(t, "the chapter's example", m, []dirs.Entry{{Vol: 1, Epoch: 1, Nodes: [3]int{1, 2, 3}}})
}

func TestEmptyMap(t *testing.T) {
	stands(t, "New", dirs.New(), nil)
	var m dirs.Map
	stands(t, "a map that New didn't make", &m, nil)
	does(t, "a map that New didn't make", &m, making(0, 1, 255), 1)
	does(t, "a map that New didn't make", &m, sealing(1, 1), 2)
	stands(t, "a map that New didn't make", &m, []dirs.Entry{{Vol: 1, Epoch: 2, Nodes: [3]int{0, 1, 255}, Sealed: true}})
}

func TestMapsAreApart(t *testing.T) {
	a, b := dirs.New(), dirs.New()
	does(t, "one of two", a, making(1, 2, 3), 1)
	stands(t, "the other one of two", b, nil)
	does(t, "the other one of two", b, making(4, 5, 6), 1)
	does(t, "the other one of two", b, sealing(1, 1), 2)
	stands(t, "one of two", a, []dirs.Entry{{Vol: 1, Epoch: 1, Nodes: [3]int{1, 2, 3}}})
}

func TestNoMap(t *testing.T) {
	var m *dirs.Map
	kinds := append([]int{0, 1, 2, 3, 4, 5}, far...)
	for _, kind := range kinds {
		for _, n := range append([]int{0, 1, 2}, far...) {
			for _, c := range []dirs.Cmd{
				{Kind: kind, Vol: n, Epoch: n, At: n, Node: n},
				{Kind: kind, Nodes: [3]int{n, n, n}},
				{Kind: kind, Vol: 1, Epoch: 1, At: 1, Node: n, Nodes: [3]int{n, 4, 5}},
			} {
				refuses(t, "no map", m, c, api.ErrNil)
			}
		}
	}
	refuses(t, "no map", m, making(1, 2, 3), api.ErrNil)
	stands(t, "no map", m, nil)
}

func TestOtherKinds(t *testing.T) {
	m, l := corn(t)
	for _, kind := range append([]int{0, 5, 6, 7, 8, 16, -3, -4}, far...) {
		for _, c := range []dirs.Cmd{
			{Kind: kind},
			{Kind: kind, Nodes: [3]int{1, 2, 3}},
			{Kind: kind, Vol: 1, Epoch: 1, At: 1, Node: 77, Nodes: [3]int{1, 2, 3}},
			{Kind: kind, Vol: 2, Epoch: 2, At: 1, Node: 77, Nodes: [3]int{1, 2, 3}},
			{Kind: kind, Vol: 9, Epoch: 1, At: 3, Node: 256, Nodes: [3]int{1, 1, 1}},
			{Kind: kind, Vol: kind, Epoch: kind, At: kind, Node: kind, Nodes: [3]int{kind, kind, kind}},
		} {
			refuses(t, "another kind", m, c, api.ErrArg)
			refuses(t, "another kind", dirs.New(), c, api.ErrArg)
		}
	}
	stands(t, "behind other kinds", m, l)
	m, l = full(t)
	refuses(t, "another kind", m, dirs.Cmd{Kind: 5, Nodes: [3]int{1, 2, 3}}, api.ErrArg)
	stands(t, "behind another kind", m, l)
}

func TestAMapOfAllKinds(t *testing.T) {
	m, l := corn(t)
	stands(t, "a map of all kinds", m, l)
	for i := range 5 {
		does(t, "behind all kinds", m, making(10+i, 20+i, 30+i), 9+i)
		l = append(l, dirs.Entry{Vol: 9 + i, Epoch: 1, Nodes: [3]int{10 + i, 20 + i, 30 + i}})
		stands(t, fmt.Sprint("behind all kinds, and ", i+1, " more"), m, l)
	}
}
