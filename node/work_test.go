package node_test

import (
	"fmt"
	"math"
	"slices"
	"testing"

	"corncrib/api"
	"corncrib/ckpt"
	"corncrib/compact"
	"corncrib/disk"
	"corncrib/node"
	"corncrib/wire"
)

// The kinds of work.
const (
	point  = 1
	copies = 2
)

// steps asks that work goes so many steps to its end, or that many without it.
func steps(t *testing.T, why string, n *node.Node, kind, volume, count int, end bool) {
	t.Helper()
	for i := range count {
		done, e := n.Work(kind, volume)
		if e != nil || done != (end && i == count-1) {
			t.Errorf("%s: step %d of the kind %d: %v, %v", why, i+1, kind, done, e)
		}
	}
}

// fails asks that a step tells an error of this code, and isn't the last one.
func fails(t *testing.T, why string, n *node.Node, kind, volume int, code api.Code) {
	t.Helper()
	done, e := n.Work(kind, volume)
	is(t, why, e, code)
	if done {
		t.Errorf("%s: done, beside the error", why)
	}
}

// full tells a node with volumes, each with three keys, so that a checkpoint has as
// many steps as a compaction: five.
func full(t *testing.T, volumes ...int) *node.Node {
	t.Helper()
	n := begun(t, volumes...)
	for _, volume := range volumes {
		v := n.Vol(volume)
		must(t, v.Put(blob(7, 5)), v.Put(blob(8, 5)), v.Del(8, 108), v.Put(blob(9, 20)))
	}
	return n
}

// fulls are what full's volumes have.
var fulls = []api.Needle{blob(7, 5), dead(8), blob(9, 20)}

func TestWorkOfWrongNumbers(t *testing.T) {
	n := full(t, 3, 65535)
	must(t, n.Arm(1000)) // the deeds are counted: nothing is done
	was := seen(n)
	for _, kind := range kindsOfWork {
		right := kind == 1 || kind == 2
		for _, volume := range []int{math.MinInt, -1, 0, 1, 2, 3, 4, 65535, 65536, 65539, 3 + 1<<32, math.MaxInt} {
			if volume == 3 && right || volume == 65535 && right {
				continue
			}
			code := api.ErrArg
			if right {
				code = api.ErrNone
			}
			fails(t, fmt.Sprintf("P17.2: Work(%d, %d)", kind, volume), n, kind, volume, code)
		}
	}
	stays(t, "P17.2: work that there can't be", n, was)
}

func TestWorkOfANodeThatIsNotUp(t *testing.T) {
	for why, n := range offNodes(t) {
		was := seen(n)
		for _, kind := range kindsOfWork {
			for _, volume := range []int{math.MinInt, 0, 3, 4, math.MaxInt} {
				fails(t, fmt.Sprintf("P17.2: Work(%d, %d) of a node %s", kind, volume, why), n, kind, volume, api.ErrDown)
			}
		}
		stays(t, "P17.2: Work of a node "+why, n, was)
	}
}

// Each step is as the writer's and the compactor's, on a disk that is alike; behind
// the last one it goes on from the beginning.
func TestStepByStep(t *testing.T) {
	n, twin := full(t, 3), full(t, 3)
	d, v := twin.Disk(), twin.Vol(3)
	for round := range 3 {
		for _, kind := range []int{point, copies, copies, point} {
			var step func() (bool, error)
			if kind == point {
				step = sure(ckpt.New(d, v)).Step
			} else {
				step = sure(compact.New(d, v)).Step
			}
			for i, done := 1, false; !done; i++ {
				why := fmt.Sprintf("P17.2: step %d of the kind %d, round %d", i, kind, round)
				var e error
				done, e = step()
				must(t, e)
				got, e := n.Work(kind, 3)
				if e != nil || got != done {
					t.Fatalf("%s: %v, %v; want %v", why, got, e, done)
				}
				stays(t, why, n, seen(twin))
			}
		}
	}
	if i := n.Vol(3).Info(); i.Gen != 7 || i.Size != compact.Least(n.Vol(3)) {
		t.Errorf("P17.2: behind six compactions: %+v", i)
	}
	has(t, "P17.2: behind work", n, 3, fulls...)
	restart(t, n, disk.Picks{})
	has(t, "P17.2: behind work, and a start", n, 3, fulls...)
}

// orders tells all orders in which works may do so many steps each.
func orders(left ...int) []string {
	l := []string{}
	for i := range left {
		if left[i] > 0 {
			next := slices.Clone(left)
			next[i]--
			for _, s := range orders(next...) {
				l = append(l, string(rune('0'+i))+s)
			}
		}
	}
	if len(l) == 0 {
		return []string{""}
	}
	return l
}

// A checkpoint of two volumes each, in each order: each goes its own steps.
func TestTwoVolumes(t *testing.T) {
	for _, kinds := range [][]int{{point, point}, {copies, copies}, {point, copies}, {copies, point}} {
		for _, order := range orders(5, 5) {
			n := full(t, 3, 4)
			count := [2]int{}
			for _, c := range order {
				i := int(c - '0')
				count[i]++
				done, e := n.Work(kinds[i], 3+i)
				if e != nil || done != (count[i] == 5) {
					t.Errorf("P17.2: %v of 3 and 4 in the order %s: step %d of %d: %v, %v", kinds, order, count[i], 3+i, done, e)
				}
			}
			for i := range 2 {
				gen, name := 1, fmt.Sprintf("c%d.1", 3+i)
				if kinds[i] == copies {
					gen, name = 2, fmt.Sprintf("v%d.2", 3+i)
				}
				if g := n.Vol(3 + i).Info().Gen; g != gen || !slices.Contains(n.Disk().Names(), name) {
					t.Errorf("P17.2: %v of 3 and 4 in the order %s: generation %d, files %v", kinds, order, g, n.Disk().Names())
				}
				has(t, "P17.2: behind work of two volumes", n, 3+i, fulls...)
			}
		}
	}
}

// A checkpoint and a compaction of the same volume, in each order: what the
// compaction ends ahead of the checkpoint's end makes it stale, and it begins anew.
func TestBothAtOnce(t *testing.T) {
	for _, order := range orders(5, 5) {
		n := full(t, 3)
		why := "P17.2: a checkpoint (0) and a compaction (1) in the order " + order
		points, all := 0, 0
		stale := false
		for _, c := range order {
			if c == '1' {
				all++
				steps(t, why, n, copies, 3, 1, all == 5)
				stale = all == 5 && points > 0
				continue
			}
			if stale {
				fails(t, why, n, point, 3, api.ErrStale)
				stale, points = false, 0
				continue
			}
			points++
			steps(t, why, n, point, 3, 1, points == 5)
			points %= 5
		}
		if stale {
			fails(t, why, n, point, 3, api.ErrStale)
			points = 0
		}
		steps(t, why, n, point, 3, 5-points, true)
		if !slices.Contains(n.Disk().Names(), "c3.2") || n.Vol(3).Info().Gen != 2 {
			t.Errorf("%s: %v", why, n.Disk().Names())
		}
		has(t, why, n, 3, fulls...)
		restart(t, n, disk.Picks{})
		has(t, why+", and a start", n, 3, fulls...)
	}
}

// Behind an error nothing is under way: the next step is the first one.
func TestWorkWithoutItsFile(t *testing.T) {
	for kind, name := range map[int]string{point: "c3.0", copies: "v3.2"} {
		for gap := 1; gap < 4; gap++ {
			n := full(t, 3)
			why := fmt.Sprintf("P17.2: kind %d, whose file is gone behind %d steps", kind, gap)
			for range 2 {
				steps(t, why, n, kind, 3, gap, false)
				must(t, n.Disk().Remove(name))
				fails(t, why, n, kind, 3, api.ErrNone)
			}
			steps(t, why+", from the beginning", n, kind, 3, 5, true)
			has(t, why, n, 3, fulls...)
		}
	}
}

// What a step tells is told as it is, also where it is wrapped.
func TestWorkOfASpoiltNeedle(t *testing.T) {
	n := full(t, 3)
	must(t, n.Disk().Spoil("v3.1", 16+40+8, 2)) // nobody needs it any more
	for range 3 {
		steps(t, "P17.2: ahead of a needle that is spoilt", n, copies, 3, 2, false)
		must(t, n.Disk().Spoil("v3.1", 16+40+40+8, 2))
		done, e := n.Work(copies, 3)
		isAt(t, "P17.2: of a needle that is spoilt", e, api.ErrSum, "v3.1", 16+40+40)
		if done {
			t.Errorf("P17.2: of a needle that is spoilt: done")
		}
		must(t, n.Disk().Spoil("v3.1", 16+40+40+8, 2))
	}
	steps(t, "P17.2: behind errors", n, copies, 3, 5, true)
	has(t, "P17.2: behind errors", n, 3, fulls...)
}

// On a full disk each kind tells it at the step that writes.
func TestWorkOnAFullDisk(t *testing.T) {
	n := full(t, 3)
	must(t, fill(n, plenty))
	for range 3 {
		steps(t, "P17.2: a checkpoint on a full disk", n, point, 3, 1, false)
		fails(t, "P17.2: a checkpoint on a full disk", n, point, 3, api.ErrFull)
		fails(t, "P17.2: a compaction on a full disk", n, copies, 3, api.ErrFull)
	}
	must(t, n.Disk().Remove("x"))
	steps(t, "P17.2: a checkpoint behind a full disk", n, point, 3, 5, true)
	steps(t, "P17.2: a compaction behind a full disk", n, copies, 3, 5, true)
	has(t, "P17.2: behind a full disk", n, 3, fulls...)
}

// What is under way goes on with other calls between, and whatever they tell.
func TestCallsBetweenSteps(t *testing.T) {
	n := full(t, 3)
	for i := range 5 {
		steps(t, "P17.2: with calls between", n, point, 3, 1, i == 4)
		is(t, "P17.2: between steps: Make", n.Make(3, plenty), api.ErrThere)
		is(t, "P17.2: between steps: Make", n.Make(10+i, plenty), 0)
		is(t, "P17.2: between steps: Arm", n.Arm(-1), api.ErrArg)
		is(t, "P17.2: between steps: Arm", n.Arm(1000), 0)
		is(t, "P17.2: between steps: Start", n.Start(), api.ErrBusy)
		fails(t, "P17.2: between steps: another kind", n, 3, 3, api.ErrArg)
		fails(t, "P17.2: between steps: another volume", n, point, 4, api.ErrNone)
		answers(t, "P17.2: between steps: a put", n, ask(n, wire.Put, uint64(i), blob(uint64(20+i), 5)), 0)
		refuses(t, "P17.2: between steps: no request", n, wire.Msg{}, api.ErrArg)
	}
	restart(t, n, disk.Picks{})
	has(t, "P17.2: with calls between", n, 3, append(slices.Clone(fulls), blob(20, 5), blob(21, 5), blob(22, 5), blob(23, 5), blob(24, 5))...)
}

// A disk that is down behind a step, whatever it told: ErrDown, and the node isn't up.
func TestWorkOfADiskThatEnds(t *testing.T) {
	for kind, all := range map[int]int{point: 5, copies: 5} {
		ends := map[int]bool{}
		for deeds := range 40 {
			n := full(t, 3)
			must(t, n.Arm(deeds))
			why := fmt.Sprintf("P17.2: kind %d with %d deeds", kind, deeds)
			i := 1
			for ; n.Up() && i <= all; i++ {
				done, e := n.Work(kind, 3)
				if n.Disk().Down() {
					is(t, why, e, api.ErrDown)
					ends[i] = true
					if done {
						t.Errorf("%s: done, beside the error", why)
					}
				} else if e != nil || done != (i == all) {
					t.Errorf("%s: step %d: %v, %v", why, i, done, e)
				}
			}
			if n.Up() != !n.Disk().Down() {
				t.Errorf("%s: up: %v", why, n.Up())
			}
			state(t, why, n, n.Up(), 0, 3)
			if !n.Up() {
				fails(t, why+", and a step", n, kind, 3, api.ErrDown)
			}
			restart(t, n, every(deeds%4, disk.Pick{Keep: 8 * deeds}))
			has(t, why+", and a start", n, 3, fulls...)
			// All of it is to be done, from the beginning.
			steps(t, why+", and a start", n, kind, 3, all, true)
			has(t, why+", and all", n, 3, fulls...)
		}
		for i := 1; i <= all; i++ {
			if !ends[i] {
				t.Errorf("P17.2: kind %d: no disk ended behind the step %d", kind, i)
			}
		}
	}
}

// Behind a crash nothing is under way.
func TestNothingUnderWayBehindACrash(t *testing.T) {
	for kind := point; kind <= copies; kind++ {
		for gap := range 5 {
			n := full(t, 3, 4)
			why := fmt.Sprintf("P17.3: kind %d, a crash behind %d steps", kind, gap)
			steps(t, why, n, kind, 3, gap, false)
			steps(t, why, n, 3-kind, 4, gap, false)
			restart(t, n, every(9, disk.Pick{Keep: plenty}))
			steps(t, why, n, kind, 3, 5, true)
			steps(t, why, n, 3-kind, 4, 5, true)
			has(t, why, n, 3, fulls...)
			has(t, why, n, 4, fulls...)
		}
	}
}
