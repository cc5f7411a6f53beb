package dirs_test

import (
	"fmt"
	"math"
	"slices"
	"testing"

	"corncrib/api"
	"corncrib/dirs"
)

// asking are commands of all kinds that ask for a volume of an epoch: of those that
// are right, but for these two, and of those that aren't.
func asking(volume, epoch int) []dirs.Cmd {
	l := []dirs.Cmd{sealing(volume, epoch), opening(volume, epoch)}
	for _, at := range []int{-1, 0, 1, 2, 3, math.MinInt, math.MaxInt} {
		for _, node := range []int{-1, 0, 1, 77, 255, 256, math.MinInt, math.MaxInt} {
			l = append(l, replacing(volume, epoch, at, node))
		}
	}
	return l
}

func TestVolumesThatAreNotThere(t *testing.T) {
	m, l := corn(t)
	for _, volume := range append([]int{0, -1, -8, 9, 10, 256 + 1, 65536 + 2}, far...) {
		for _, epoch := range append([]int{0, 1, 2, 3, 301}, far...) {
			for _, c := range asking(volume, epoch) {
				refuses(t, "a volume that isn't there", m, c, api.ErrNone)
			}
		}
	}
	stands(t, "behind volumes that aren't there", m, l)
	empty := dirs.New()
	for _, volume := range append([]int{0, 1, 2}, far...) {
		for _, c := range asking(volume, 1) {
			refuses(t, "a volume of an empty map", empty, c, api.ErrNone)
		}
	}
	stands(t, "behind volumes of an empty map", empty, nil)
}

func TestOneBehindTheLast(t *testing.T) {
	m := dirs.New()
	for i := range 5 {
		for _, c := range asking(i+1, 1) {
			refuses(t, fmt.Sprint("of ", i, " volumes"), m, c, api.ErrNone)
		}
		does(t, "the next one", m, making(1, 2, 3), i+1)
		does(t, "the next one", m, sealing(i+1, 1), 2)
	}
}

// stale are epochs that aren't a volume's: those near, those of other volumes, and
// such as would be its own, if they were cut or went round.
func stale(y dirs.Entry, all []dirs.Entry) []int {
	e := y.Epoch
	l := append([]int{0, 1, 2, e - 1, e + 1, -e, e + 256, e - 256, e + 65536, e + 1<<31, e + 1<<32, e - 1<<32, e | math.MinInt}, far...)
	for _, x := range all {
		l = append(l, x.Epoch)
	}
	return slices.DeleteFunc(each(l...), func(n int) bool { return n == e })
}

func TestStaleEpochs(t *testing.T) {
	m, l := corn(t)
	for _, y := range l {
		for _, epoch := range stale(y, l) {
			for _, c := range asking(y.Vol, epoch) {
				refuses(t, "of another epoch", m, c, api.ErrStale)
			}
			for _, node := range y.Nodes {
				refuses(t, "of another epoch", m, replacing(y.Vol, epoch, 0, node), api.ErrStale)
			}
		}
	}
	stands(t, "behind other epochs", m, l)
}

func TestAnEpochIsUsedUp(t *testing.T) {
	m := dirs.New()
	does(t, "one volume", m, making(1, 2, 3), 1)
	for epoch := 1; epoch < 60; epoch++ {
		c := [...]dirs.Cmd{sealing(1, epoch), opening(1, epoch), replacing(1, epoch, epoch%9/3, 3+epoch)}[(epoch+2)%3]
		does(t, "one volume", m, c, epoch+1)
		for old := range epoch + 1 {
			for _, c := range []dirs.Cmd{sealing(1, old), opening(1, old), replacing(1, old, 0, 200)} {
				refuses(t, "an epoch that is used up", m, c, api.ErrStale)
			}
		}
	}
}

// beside are commands of one kind, of a volume and its epoch, with anything in what
// doesn't count.
func beside(c dirs.Cmd) []dirs.Cmd {
	l := []dirs.Cmd{c}
	for _, n := range append([]int{0, 1, 2, 3}, far...) {
		c.Nodes = [3]int{n, n, n}
		l = append(l, c)
		if c.Kind != 4 {
			c.At, c.Node = n, n
			l = append(l, c)
			c.At, c.Node = 0, 0
		}
	}
	return l
}

func TestSealAndOpen(t *testing.T) {
	_, l := corn(t)
	for i, y := range l {
		for k, c := range beside(sealing(y.Vol, y.Epoch)) {
			m, want := corn(t)
			if !y.Sealed {
				does(t, "one that is open", m, c, y.Epoch+1)
				want[i].Epoch, want[i].Sealed = y.Epoch+1, true
				c.Epoch++
			}
			refuses(t, "one that is sealed", m, c, api.ErrSealed)
			if k == 0 {
				stands(t, "behind a seal", m, want)
			}
		}
		for k, c := range beside(opening(y.Vol, y.Epoch)) {
			m, want := corn(t)
			if y.Sealed {
				does(t, "one that is sealed", m, c, y.Epoch+1)
				want[i].Epoch, want[i].Sealed = y.Epoch+1, false
				c.Epoch++
			}
			refuses(t, "one that is open", m, c, api.ErrThere)
			if k == 0 {
				stands(t, "opened again", m, want)
			}
		}
	}
}

func TestSealAndOpenByTurns(t *testing.T) {
	m, l := corn(t)
	for range 20 {
		for i := range l {
			y := &l[i]
			c, twice := sealing(y.Vol, y.Epoch), api.ErrSealed
			if y.Sealed {
				c, twice = opening(y.Vol, y.Epoch), api.ErrThere
			}
			does(t, "by turns", m, c, y.Epoch+1)
			y.Epoch, y.Sealed = y.Epoch+1, !y.Sealed
			refuses(t, "by turns", m, c, api.ErrStale)
			c.Epoch++
			refuses(t, "by turns", m, c, twice)
			refuses(t, "by turns", m, c, twice)
		}
		stands(t, "by turns", m, l)
	}
}

func TestReplace(t *testing.T) {
	m, l := corn(t)
	for i := range l {
		y := &l[i]
		for at := range 3 {
			for node := range 256 {
				c := replacing(y.Vol, y.Epoch, at, node)
				if slices.Contains(y.Nodes[:], node) {
					refuses(t, "by one of its three", m, c, api.ErrThere)
					continue
				}
				does(t, "by another one", m, c, y.Epoch+1)
				y.Epoch++
				y.Nodes[at] = node
				if e, err := m.Find(y.Vol); err != nil || e != *y {
					t.Fatalf("P19.1: behind Do of %+v: Find: %+v, %v; want %+v", c, e, err, *y)
				}
			}
			stands(t, fmt.Sprint("replaced by each node at ", at), m, l)
		}
	}
}

func TestReplaceByOneOfItsThree(t *testing.T) {
	m, l := corn(t)
	for _, y := range l {
		for at := range 3 {
			for _, node := range y.Nodes {
				for _, c := range beside(replacing(y.Vol, y.Epoch, at, node)) {
					refuses(t, "by one of its three", m, c, api.ErrThere)
				}
			}
		}
	}
	stands(t, "behind its three", m, l)
}

func TestReplaceOfWhatCanNotBe(t *testing.T) {
	m, l := corn(t)
	for _, y := range l {
		nodes := append([]int{-1, 0, 77, 255, 256}, y.Nodes[:]...)
		for _, at := range append([]int{3, 4, 5}, far...) {
			for _, node := range append(nodes, far...) {
				refuses(t, "at a place that can't be", m, replacing(y.Vol, y.Epoch, at, node), api.ErrArg)
			}
		}
		for _, n := range y.Nodes {
			for at := range 3 {
				for _, node := range append([]int{n + 256, n - 256, n + 1<<32, n + 65536, n | math.MinInt}, far...) {
					refuses(t, "by a node that can't be", m, replacing(y.Vol, y.Epoch, at, node), api.ErrArg)
				}
			}
		}
	}
	stands(t, "behind what can't be", m, l)
}

func TestReplaceLooksAtItsOwnAlone(t *testing.T) {
	_, l := corn(t)
	for i, y := range l {
		for k, c := range beside(replacing(y.Vol, y.Epoch, 2, 99)) {
			m, want := corn(t)
			does(t, "with other nodes beside it", m, c, y.Epoch+1)
			if k%8 > 0 {
				continue
			}
			want[i].Epoch++
			want[i].Nodes[2] = 99
			stands(t, "with other nodes beside it", m, want)
		}
	}
}

func TestANodeThatComesBack(t *testing.T) {
	m := dirs.New()
	does(t, "back and forth", m, making(1, 2, 3), 1)
	nodes, epoch := [3]int{1, 2, 3}, 1
	// The elder one is free again, for each place, and only behind its replacement.
	for i := range 60 {
		at, node := i%3, 1+(i+3)%4
		for _, n := range nodes {
			refuses(t, "back and forth", m, replacing(1, epoch, at, n), api.ErrThere)
		}
		does(t, "back and forth", m, replacing(1, epoch, at, node), epoch+1)
		epoch++
		nodes[at] = node
		stands(t, "back and forth", m, []dirs.Entry{{Vol: 1, Epoch: epoch, Nodes: nodes}})
	}
}

func TestReplaceAndSealDoNotAskForEachOther(t *testing.T) {
	m := dirs.New()
	does(t, "one", m, making(1, 2, 3), 1)
	does(t, "open", m, replacing(1, 1, 0, 4), 2)
	does(t, "replaced", m, sealing(1, 2), 3)
	does(t, "sealed", m, replacing(1, 3, 1, 5), 4)
	stands(t, "replaced when it was sealed", m, []dirs.Entry{{Vol: 1, Epoch: 4, Nodes: [3]int{4, 5, 3}, Sealed: true}})
	refuses(t, "sealed and replaced", m, sealing(1, 4), api.ErrSealed)
	does(t, "sealed and replaced", m, opening(1, 4), 5)
	refuses(t, "opened again", m, opening(1, 5), api.ErrThere)
	does(t, "opened again", m, replacing(1, 5, 2, 1), 6)
	refuses(t, "opened again and replaced", m, opening(1, 6), api.ErrThere)
	does(t, "opened again and replaced", m, sealing(1, 6), 7)
	stands(t, "in the end", m, []dirs.Entry{{Vol: 1, Epoch: 7, Nodes: [3]int{4, 5, 1}, Sealed: true}})
}
