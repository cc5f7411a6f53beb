package dirs_test

import (
	"fmt"
	"testing"

	"corncrib/api"
	"corncrib/dirs"
)

func TestMakeOnEachNode(t *testing.T) {
	m := dirs.New()
	var l []dirs.Entry
	for node := range 256 {
		for at := range 3 {
			nodes := [3]int{(node + 1) % 256, (node + 128) % 256, (node + 255) % 256}
			nodes[at] = node
			does(t, "on each node", m, dirs.Cmd{Kind: 1, Nodes: nodes}, len(l)+1)
			l = append(l, dirs.Entry{Vol: len(l) + 1, Epoch: 1, Nodes: nodes})
		}
	}
	stands(t, "on each node", m, l)
}

// can tells whether a volume may be on these nodes.
func can(a, b, c int) bool {
	least, greatest := min(a, b, c), max(a, b, c)
	return least >= 0 && greatest < 256 && a != b && b != c && c != a
}

func TestMakeOnAllChoices(t *testing.T) {
	nodes := []int{-1, 0, 1, 2, 127, 128, 254, 255, 256}
	m := dirs.New()
	var l []dirs.Entry
	for _, a := range nodes {
		for _, b := range nodes {
			for _, c := range nodes {
				if !can(a, b, c) {
					refuses(t, "nodes that can't be", m, making(a, b, c), api.ErrArg)
					continue
				}
				does(t, "nodes that can be", m, making(a, b, c), len(l)+1)
				l = append(l, dirs.Entry{Vol: len(l) + 1, Epoch: 1, Nodes: [3]int{a, b, c}})
			}
		}
	}
	if len(l) != 7*6*5 {
		t.Fatalf("%d choices of nodes that can be", len(l))
	}
	stands(t, "on all choices of nodes", m, l)
}

// wrong are nodes that no volume can be on.
func wrong() [][3]int {
	l := [][3]int{{0, 0, 0}, {1, 1, 2}, {1, 2, 1}, {2, 1, 1}, {1, 1, 1}, {255, 255, 0}, {255, 0, 255}, {0, 255, 255}, {255, 255, 255}, {0, 0, 256}, {-1, 5, 5}}
	for _, n := range far {
		l = append(l, [3]int{n, 1, 2}, [3]int{1, n, 2}, [3]int{1, 2, n}, [3]int{n, n, 1}, [3]int{n, 1, n}, [3]int{1, n, n}, [3]int{n, n, n})
	}
	return l
}

func TestMakeOnNodesThatCanNotBe(t *testing.T) {
	many, l := corn(t)
	crowded, all := full(t)
	empty := dirs.New()
	for _, y := range wrong() {
		for _, m := range []*dirs.Map{empty, many, crowded} {
			refuses(t, fmt.Sprint("nodes that can't be, of ", len(m.All()), " volumes"), m, making(y[0], y[1], y[2]), api.ErrArg)
		}
	}
	stands(t, "behind nodes that can't be", empty, nil)
	stands(t, "behind nodes that can't be", many, l)
	stands(t, "behind nodes that can't be", crowded, all)
	does(t, "behind nodes that can't be", empty, making(1, 2, 3), 1)
	does(t, "behind nodes that can't be", many, making(1, 2, 3), len(l)+1)
}

func TestMakeLooksAtTheNodesAlone(t *testing.T) {
	m := dirs.New()
	var l []dirs.Entry
	for _, n := range append([]int{0, 1, 2, 3, 4}, far...) {
		for _, c := range []dirs.Cmd{{Vol: n}, {Epoch: n}, {At: n}, {Node: n}, {Vol: n, Epoch: n, At: n, Node: n}, {Vol: 1, Epoch: 1, At: 1, Node: n}} {
			i := len(l)
			c.Kind, c.Nodes = 1, row(i)
			does(t, "with other numbers beside it", m, c, i+1)
			l = append(l, dirs.Entry{Vol: i + 1, Epoch: 1, Nodes: row(i)})
		}
	}
	stands(t, "with other numbers beside it", m, l)
	for _, y := range wrong() {
		refuses(t, "nodes that can't be", m, dirs.Cmd{Kind: 1, Vol: 1, Epoch: 1, At: 1, Node: 77, Nodes: y}, api.ErrArg)
	}
}

func TestTheSameNodesAgain(t *testing.T) {
	m := dirs.New()
	var l []dirs.Entry
	for i := range 20 {
		does(t, "on the same nodes", m, making(9, 5, 7), i+1)
		l = append(l, dirs.Entry{Vol: i + 1, Epoch: 1, Nodes: [3]int{9, 5, 7}})
		stands(t, "on the same nodes", m, l)
	}
}

func TestFull(t *testing.T) {
	m, l := full(t)
	stands(t, "of the most volumes", m, l)
	for i := range 3 {
		refuses(t, "one more", m, making(i, 1+i, 2+i), api.ErrFull)
		refuses(t, "one more", m, dirs.Cmd{Kind: 1, Vol: 1, Epoch: 1, At: 1, Node: 77, Nodes: [3]int{i, 200, 255}}, api.ErrFull)
		refuses(t, "one more", m, making(i, i, 2+i), api.ErrArg)
	}
	stands(t, "behind one more", m, l)
	for _, volume := range []int{1, 2, 2048, most - 1, most} {
		y := &l[volume-1]
		does(t, "of the most volumes", m, sealing(volume, 1), 2)
		does(t, "of the most volumes", m, replacing(volume, 2, 1, (y.Nodes[1]+50)%256), 3)
		y.Epoch, y.Sealed, y.Nodes[1] = 3, true, (y.Nodes[1]+50)%256
		refuses(t, "of the most volumes", m, making(1, 2, 3), api.ErrFull)
	}
	does(t, "of the most volumes", m, opening(most, 3), 4)
	l[most-1].Epoch, l[most-1].Sealed = 4, false
	refuses(t, "of the most volumes", m, sealing(most+1, 1), api.ErrNone)
	stands(t, "of the most volumes, some of them changed", m, l)
	refuses(t, "of the most volumes", m, making(1, 2, 3), api.ErrFull)
}

func TestTheLastRoom(t *testing.T) {
	m := dirs.New()
	for i := range most - 1 {
		y := row(i)
		does(t, "up to the last but one", m, making(y[0], y[1], y[2]), i+1)
	}
	refuses(t, "up to the last but one", m, sealing(most, 1), api.ErrNone)
	does(t, "the last one", m, making(1, 2, 3), most)
	refuses(t, "the one behind", m, making(1, 2, 3), api.ErrFull)
	does(t, "the last one", m, sealing(most, 1), 2)
}
