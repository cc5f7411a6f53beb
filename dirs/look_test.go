package dirs_test

import (
	"bytes"
	"slices"
	"testing"

	"corncrib/dirs"
	"corncrib/sample"
)

func TestWhatIsToldIsTheCallers(t *testing.T) {
	m, l := corn(t)
	for range 3 {
		all := m.All()
		for i := range all {
			all[i] = dirs.Entry{Vol: 99, Epoch: -1, Nodes: [3]int{255, 255, 255}, Sealed: !all[i].Sealed}
		}
		clear(all[:cap(all)])
		one, e := m.Find(1)
		if e != nil {
			t.Fatal(e)
		}
		one.Nodes[0], one.Epoch, one.Sealed = 99, 99, true
		few := m.On(1)
		for i := range few[:cap(few)] {
			few[:cap(few)][i] = 99
		}
		sample.Spoil(m.Bytes())
		stands(t, "what was told was changed by the caller", m, l)
	}
	does(t, "what was told was changed by the caller", m, making(1, 2, 3), len(l)+1)
	stands(t, "what was told was changed by the caller", m, append(l, dirs.Entry{Vol: 9, Epoch: 1, Nodes: [3]int{1, 2, 3}}))
}

func TestWhatWasToldStays(t *testing.T) {
	m, l := corn(t)
	all, few, b := m.All(), m.On(1), m.Bytes()
	one, e := m.Find(1)
	if e != nil {
		t.Fatal(e)
	}
	want := slices.Clone(l)
	for i := range want {
		y := &want[i]
		does(t, "of all kinds", m, replacing(y.Vol, y.Epoch, 1, 100+i), y.Epoch+1)
		c := sealing(y.Vol, y.Epoch+1)
		if y.Sealed {
			c.Kind = 3
		}
		does(t, "of all kinds", m, c, y.Epoch+2)
		y.Epoch, y.Sealed, y.Nodes[1] = y.Epoch+2, !y.Sealed, 100+i
	}
	does(t, "of all kinds", m, making(1, 99, 3), 9)
	stands(t, "behind later commands", m, append(want, dirs.Entry{Vol: 9, Epoch: 1, Nodes: [3]int{1, 99, 3}}))
	if !slices.Equal(all, l) || one != l[0] || !slices.Equal(few, []int{1, 3, 5, 6}) || !bytes.Equal(b, laid(l)) {
		t.Errorf("P19.2: what was told changed with later commands: %v, %v, %v, %v", all, one, few, b)
	}
}

func TestOn(t *testing.T) {
	m, _ := corn(t)
	for _, y := range []struct {
		node int
		want []int
	}{
		{0, []int{2, 5, 6}}, {1, []int{1, 3, 5, 6}}, {2, []int{1, 3}}, {3, []int{1, 3}}, {4, []int{7, 8}}, {7, nil}, {8, []int{4}},
		{128, []int{2}}, {200, []int{4}}, {254, nil}, {255, []int{2, 5, 6}}, {256, nil}, {-1, nil}, {511, nil}, {-256, nil},
	} {
		if l := m.On(y.node); !slices.Equal(l, y.want) {
			t.Errorf("P19.2: On of %d: %v; want %v", y.node, l, y.want)
		}
	}
}

func TestOnBehindReplacements(t *testing.T) {
	m := dirs.New()
	for i := range 10 {
		does(t, "on three nodes", m, making(1, 2, 3), i+1)
	}
	all := []int{1, 2, 3, 4, 5, 6, 7, 8, 9, 10}
	// From the last to the first, so that their order isn't that of the commands.
	for volume := 10; volume > 0; volume-- {
		at := volume % 3
		does(t, "replaced", m, replacing(volume, 1, at, 200), 2)
		for node := 1; node <= 3; node++ {
			want := slices.DeleteFunc(slices.Clone(all), func(v int) bool { return v >= volume && v%3 == node-1 })
			if l := m.On(node); !slices.Equal(l, want) {
				t.Fatalf("P19.2: behind the replacement of %d: On of %d: %v; want %v", volume, node, l, want)
			}
		}
		if l := m.On(200); !slices.Equal(l, all[volume-1:]) {
			t.Fatalf("P19.2: behind the replacement of %d: On of its new node: %v; want %v", volume, l, all[volume-1:])
		}
	}
}

func TestBytes(t *testing.T) {
	m := dirs.New()
	holds := func(why string, want ...byte) {
		t.Helper()
		if b := m.Bytes(); !bytes.Equal(b, want) {
			t.Fatalf("P19.2: %s: Bytes: %v; want %v", why, b, want)
		}
	}
	holds("of an empty map")
	does(t, "one", m, making(1, 2, 3), 1)
	holds("one", 1, 0, 0, 0, 1, 2, 3, 0)
	does(t, "two", m, making(255, 0, 128), 2)
	holds("two", 1, 0, 0, 0, 1, 2, 3, 0, 1, 0, 0, 0, 255, 0, 128, 0)
	does(t, "sealed", m, sealing(2, 1), 2)
	holds("sealed", 1, 0, 0, 0, 1, 2, 3, 0, 2, 0, 0, 0, 255, 0, 128, 1)
	does(t, "replaced", m, replacing(2, 2, 1, 9), 3)
	holds("replaced", 1, 0, 0, 0, 1, 2, 3, 0, 3, 0, 0, 0, 255, 9, 128, 1)
	does(t, "open", m, opening(2, 3), 4)
	holds("open", 1, 0, 0, 0, 1, 2, 3, 0, 4, 0, 0, 0, 255, 9, 128, 0)
}

func TestBytesOfGreatEpochs(t *testing.T) {
	m := dirs.New()
	does(t, "one", m, making(7, 8, 9), 1)
	does(t, "two", m, making(7, 8, 9), 2)
	last := 1
	for _, y := range []struct {
		epoch int
		b     [5]byte // of it, and whether it is sealed
	}{
		{254, [5]byte{254, 0, 0, 0, 1}}, {255, [5]byte{255, 0, 0, 0, 0}}, {256, [5]byte{0, 1, 0, 0, 1}}, {257, [5]byte{1, 1, 0, 0, 0}},
		{65535, [5]byte{255, 255, 0, 0, 0}}, {65536, [5]byte{0, 0, 1, 0, 1}}, {65537, [5]byte{1, 0, 1, 0, 0}}, {66306, [5]byte{2, 3, 1, 0, 1}},
		{1<<24 - 1, [5]byte{255, 255, 255, 0, 0}}, {1 << 24, [5]byte{0, 0, 0, 1, 1}}, {1<<24 + 1, [5]byte{1, 0, 0, 1, 0}},
	} {
		turned(t, m, 1, last, y.epoch)
		last = y.epoch
		want := []byte{y.b[0], y.b[1], y.b[2], y.b[3], 7, 8, 9, y.b[4], 1, 0, 0, 0, 7, 8, 9, 0}
		if b := m.Bytes(); !bytes.Equal(b, want) {
			t.Errorf("P19.2: of the epoch %d: Bytes: %v; want %v", y.epoch, b, want)
		}
		if e, err := m.Find(1); err != nil || e.Epoch != y.epoch {
			t.Errorf("P19.2: of the epoch %d: Find: %+v, %v", y.epoch, e, err)
		}
	}
}
