package node_test

import (
	"fmt"
	"maps"
	"math"
	"testing"

	"corncrib/api"
	"corncrib/disk"
	"corncrib/node"
	"corncrib/vol"
	"corncrib/wire"
)

func TestArm(t *testing.T) {
	for _, deeds := range []int{math.MinInt, -1 << 32, -2, -1} {
		n := begun(t, 3)
		was := seen(n)
		is(t, fmt.Sprintf("P17.3: Arm(%d)", deeds), n.Arm(deeds), api.ErrArg)
		stays(t, fmt.Sprintf("P17.3: Arm(%d)", deeds), n, was)
		// It isn't armed.
		for i := range uint64(20) {
			answers(t, fmt.Sprintf("P17.3: a put behind Arm(%d)", deeds), n, ask(n, wire.Put, i, blob(i, 5)), 0)
		}
	}
	for deeds := range 12 {
		n := begun(t, 3)
		is(t, fmt.Sprintf("P17.3: Arm(%d)", deeds), n.Arm(deeds), 0)
		// Each put has two deeds; behind the last one there is no answer.
		for i := range (deeds + 1) / 2 {
			if why, m := fmt.Sprintf("P17.3: put %d behind Arm(%d)", i, deeds), ask(n, wire.Put, uint64(i), blob(uint64(i), 5)); 2*i+2 < deeds {
				state(t, why, n, true, 0, 3)
				answers(t, why, n, m, 0)
			} else {
				refuses(t, why, n, m, api.ErrDown)
			}
		}
		state(t, fmt.Sprintf("P17.3: behind Arm(%d) and its deeds", deeds), n, false, 0, 3)
	}
	for _, deeds := range []int{1 << 31, 1 << 32, math.MaxInt} {
		n := begun(t, 3)
		is(t, fmt.Sprintf("P17.3: Arm(%d)", deeds), n.Arm(deeds), 0)
		for i := range uint64(20) {
			answers(t, fmt.Sprintf("P17.3: a put behind Arm(%d)", deeds), n, ask(n, wire.Put, i, blob(i, 5)), 0)
		}
	}
}

// The last Arm is that which counts; a crash takes it back.
func TestArmAgain(t *testing.T) {
	n := begun(t, 3)
	must(t, n.Arm(1), n.Arm(5))
	answers(t, "P17.3: Arm again", n, ask(n, wire.Put, 1, blob(7, 5)), 0)
	answers(t, "P17.3: Arm again", n, ask(n, wire.Put, 2, blob(8, 5)), 0)
	restart(t, n, disk.Picks{})
	for i := range uint64(9) {
		answers(t, "P17.3: Arm, and a start", n, ask(n, wire.Put, i, blob(20+i, 5)), 0)
	}
	must(t, n.Arm(1000), n.Arm(0))
	state(t, "P17.3: Arm(0)", n, false, 1, 3)
}

func TestArmOfANodeThatIsNotUp(t *testing.T) {
	for why, n := range offNodes(t) {
		was := seen(n)
		for _, deeds := range []int{math.MinInt, -1, 0, 1, 2, 1000, math.MaxInt} {
			is(t, fmt.Sprintf("P17.3: Arm(%d) of a node %s", deeds, why), n.Arm(deeds), api.ErrDown)
			stays(t, "P17.3: Arm of a node "+why, n, was)
		}
		must(t, n.Crash(disk.Picks{}))
	}
}

// A node whose disk was down isn't up till it is started, though the disk be taken
// back by hand.
func TestDiskTakenBackByHand(t *testing.T) {
	for why, down := range map[string]func(n *node.Node){
		"Arm(0)":      func(n *node.Node) { must(t, n.Arm(0)) },
		"a put":       func(n *node.Node) { must(t, n.Arm(1)); _, _ = n.Handle(ask(n, wire.Put, 1, blob(8, 5))) },
		"a lay, done": func(n *node.Node) { must(t, n.Arm(2)); _, _ = n.Handle(ask(n, wire.Lay, 1, blob(8, 5))) },
		"work":        func(n *node.Node) { must(t, n.Arm(1)); _, _ = n.Work(point, 3) },
		"Make":        func(n *node.Node) { must(t, n.Arm(1)); _ = n.Make(4, plenty) },
		"by hand":     func(n *node.Node) { must(t, n.Disk().Arm(0)); _ = n.Up() },
		"Start": func(n *node.Node) {
			// What the compaction has left is removed: two deeds.
			must(t, n.Crash(every(9, disk.Pick{})), n.Disk().Arm(2))
			is(t, "P17.3: Start with just its deeds", n.Start(), 0)
		},
	} {
		n := begun(t, 3)
		answers(t, "P17.3: put", n, ask(n, wire.Put, 7, blob(7, 5)), 0)
		steps(t, "P17.3: "+why, n, copies, 3, 2, false)
		down(n)
		must(t, n.Disk().Crash(disk.Picks{}))
		life := n.Life()
		why = "P17.3: a disk that was down by " + why
		state(t, why, n, false, life, 3)
		refuses(t, why, n, ask(n, wire.Get, 7, blob(7, 0)), api.ErrDown)
		fails(t, why, n, copies, 3, api.ErrDown)
		is(t, why, n.Make(5, plenty), api.ErrDown)
		is(t, why, n.Arm(1), api.ErrDown)
		// No answer is of the next life, and nothing is under way.
		is(t, why, n.Start(), 0)
		state(t, why, n, true, life+1, 3)
		answers(t, why, n, ask(n, wire.Get, 7, blob(7, 0)), 0, blob(7, 5))
		steps(t, why, n, copies, 3, 2+len(n.Vol(3).Keys(0, 9)), true)
	}
}

// A crash is of the disk by the picks: what was synced stays, and what wasn't as the
// picks say.
func TestCrashByPicks(t *testing.T) {
	for names := range 4 {
		for _, p := range []disk.Pick{{}, {Keep: 3}, {Keep: 99}, {Keep: 2, Turn: 5}, {Keep: -1}} {
			n, d := begun(t, 3), sure(disk.New(plenty))
			// The twin is a disk that crashes alone.
			for name, b := range files(n.Disk()) {
				must(t, d.Create(name), d.Append(name, []byte(b)), d.Sync(name))
			}
			must(t, d.SyncNames())
			for _, d := range []*disk.Disk{n.Disk(), d} {
				must(t, d.Create("x"), d.Append("x", []byte("maize")), d.Rename("x", "y"), d.Append("v3.1", []byte("maize")))
			}
			must(t, d.Crash(every(names, p)))
			is(t, "P17.3: Crash", n.Crash(every(names, p)), 0)
			if got, want := files(n.Disk()), files(d); !maps.Equal(got, want) {
				t.Errorf("P17.3: Crash by %d, %v: %q; want %q", names, p, got, want)
			}
			state(t, "P17.3: Crash", n, false, 0, 3)
			must(t, n.Start())
			has(t, "P17.3: Crash", n, 3)
		}
	}
}

func TestCrashOfANodeThatIsNotUp(t *testing.T) {
	for why, n := range offNodes(t) {
		life, spoilt := n.Life(), why == "that couldn't start"
		for range 3 {
			is(t, "P17.3: Crash of a node "+why, n.Crash(every(9, disk.Pick{Keep: 9})), 0)
			state(t, "P17.3: Crash of a node "+why, n, false, life, 3)
			if n.Disk().Down() {
				t.Errorf("P17.3: Crash of a node %s: the disk is down", why)
			}
		}
		if spoilt {
			must(t, n.Disk().Spoil("m3", 3, 1))
		}
		is(t, "P17.3: Start of a node "+why, n.Start(), 0)
		state(t, "P17.3: Start of a node "+why, n, true, life+1, 3)
		has(t, "P17.3: Start of a node "+why, n, 3, blob(7, 5))
	}
}

// Behind a crash no answer is kept: in the next life each request is a new one, and
// there is room.
func TestNoAnswerIsKeptBehindACrash(t *testing.T) {
	n := begun(t, 3)
	for life := range 3 {
		for i := range uint64(4096) {
			answers(t, fmt.Sprintf("P17.3: the Id %d in the life %d", i, life), n, ask(n, wire.Get, i, blob(7, 0)), api.ErrNone)
		}
		restart(t, n, disk.Picks{})
	}
	answers(t, "P17.3: in the last life", n, ask(n, wire.Put, 1, blob(7, 5)), 0)
}

func TestStartRefuses(t *testing.T) {
	n := begun(t, 3)
	for life := range 3 {
		was := seen(n)
		is(t, "P17.3: Start of one that is up", n.Start(), api.ErrBusy)
		stays(t, "P17.3: Start of one that is up", n, was)
		must(t, n.Arm(0))
		was = seen(n)
		for range 2 {
			is(t, "P17.3: Start of one whose disk is down", n.Start(), api.ErrBusy)
			stays(t, "P17.3: Start of one whose disk is down", n, was)
		}
		must(t, n.Crash(disk.Picks{}), n.Disk().Arm(0))
		was = seen(n)
		is(t, "P17.3: Start of one that crashed, whose disk is down again", n.Start(), api.ErrBusy)
		stays(t, "P17.3: Start of one that crashed, whose disk is down again", n, was)
		must(t, n.Crash(disk.Picks{}))
		is(t, "P17.3: Start", n.Start(), 0)
		state(t, "P17.3: Start", n, true, life+1, 3)
	}
}

// Each volume is as it was, and the life one more.
func TestStart(t *testing.T) {
	n := full(t, 9, 3, 65535, 4)
	must(t, n.Vol(4).Set(0, true))
	steps(t, "P17.3: a compaction", n, copies, 3, 5, true)
	for life := range 4 {
		state(t, "P17.3: Start", n, true, life, 3, 4, 9, 65535)
		for _, volume := range []int{3, 4, 9, 65535} {
			has(t, "P17.3: Start", n, volume, fulls...)
			if i := n.Vol(volume).Info(); i.Sealed != (volume == 4) || i.Gen != map[bool]int{true: 2, false: 1}[volume == 3] {
				t.Errorf("P17.3: Start: %+v", i)
			}
		}
		was := seen(n)
		restart(t, n, disk.Picks{})
		was.life++
		stays(t, "P17.3: Start", n, was)
	}
	for _, volume := range []int{3, 9, 65535} {
		m := ask(n, wire.Put, uint64(volume), blob(77, 5))
		m.Vol = volume
		answers(t, "P17.3: put behind starts", n, m, 0)
		has(t, "P17.3: put behind starts", n, volume, append([]api.Needle{blob(77, 5)}, fulls...)...)
	}
	bare := begun(t)
	for life := range 4 {
		state(t, "P17.3: Start without volumes", bare, true, life)
		restart(t, bare, disk.Picks{})
	}
}

// The volume is as the disk has it, not as the life ahead thought it to be.
func TestStartReadsTheDisk(t *testing.T) {
	n := begun(t, 3)
	must(t, n.Vol(3).Put(blob(7, 5)), n.Arm(1))
	refuses(t, "P17.3: a put that isn't synced", n, ask(n, wire.Put, 1, blob(8, 5)), api.ErrDown)
	must(t, n.Crash(disk.Picks{}))
	must(t, n.Start())
	has(t, "P17.3: a put that wasn't synced", n, 3, blob(7, 5))
	answers(t, "P17.3: a put that wasn't synced", n, ask(n, wire.Get, 2, blob(8, 0)), api.ErrNone)
	answers(t, "P17.3: a put that wasn't synced", n, ask(n, wire.Put, 3, blob(8, 5)), 0)
	restart(t, n, disk.Picks{})
	has(t, "P17.3: a put behind one that wasn't synced", n, 3, blob(7, 5), blob(8, 5))
}

// A volume that can't be opened: its error, and the node isn't up, nor in another
// life, till it can.
func TestStartOfASpoiltVolume(t *testing.T) {
	for why, x := range map[string]struct {
		spoil, mend func(d *disk.Disk) error
		code        api.Code
		file        string
	}{
		"the manifest's sum": {func(d *disk.Disk) error { return d.Spoil("m4", 8, 1) }, func(d *disk.Disk) error { return d.Spoil("m4", 8, 1) }, api.ErrSum, "m4"},
		"the manifest":       {func(d *disk.Disk) error { return d.Spoil("m4", 0, 1) }, func(d *disk.Disk) error { return d.Spoil("m4", 0, 1) }, api.ErrForm, "m4"},
		"the superblock":     {func(d *disk.Disk) error { return d.Spoil("v4.1", 5, 1) }, func(d *disk.Disk) error { return d.Spoil("v4.1", 5, 1) }, api.ErrSum, "v4.1"},
		"another volume": {func(d *disk.Disk) error { return swap(d, "m4", "m9") }, func(d *disk.Disk) error {
			return swap(d, "m4", "m9")
		}, api.ErrForm, "m4"},
	} {
		n := full(t, 9, 3, 4)
		must(t, x.spoil(n.Disk()), n.Disk().SyncNames(), n.Crash(disk.Picks{}))
		for range 3 {
			isAt(t, "P17.3: Start with "+why+" spoilt", n.Start(), x.code, x.file, 0)
			state(t, "P17.3: Start with "+why+" spoilt", n, false, 0, 3, 4, 9)
			refuses(t, "P17.3: Start with "+why+" spoilt", n, ask(n, wire.Get, 1, blob(7, 0)), api.ErrDown)
			is(t, "P17.3: Start with "+why+" spoilt", n.Crash(disk.Picks{}), 0)
		}
		must(t, x.mend(n.Disk()), n.Disk().SyncNames())
		is(t, "P17.3: Start with "+why+" mended", n.Start(), 0)
		state(t, "P17.3: Start with "+why+" mended", n, true, 1, 3, 4, 9)
		for _, volume := range []int{3, 4, 9} {
			has(t, "P17.3: Start with "+why+" mended", n, volume, fulls...)
		}
	}
}

// swap gives two files each other's name.
func swap(d *disk.Disk, a, b string) error {
	for _, x := range [][2]string{{a, "swap"}, {b, a}, {"swap", b}} {
		if e := d.Rename(x[0], x[1]); e != nil {
			return e
		}
	}
	return nil
}

// A volume that isn't there any more is the node's no more; the others are.
func TestStartWithoutAVolume(t *testing.T) {
	n := full(t, 9, 3, 4)
	must(t, n.Disk().Remove("m4"), n.Disk().SyncNames(), n.Crash(disk.Picks{}))
	state(t, "P17.3: a volume that isn't there, behind a crash", n, false, 0, 3, 4, 9)
	is(t, "P17.3: Start without a volume", n.Start(), 0)
	for life := 1; life < 4; life++ {
		state(t, "P17.3: Start without a volume", n, true, life, 3, 9)
		has(t, "P17.3: Start without a volume", n, 3, fulls...)
		has(t, "P17.3: Start without a volume", n, 9, fulls...)
		m := ask(n, wire.Get, 1, blob(7, 0))
		m.Vol = 4
		answers(t, "P17.3: Start without a volume", n, m, api.ErrNone)
		fails(t, "P17.3: Start without a volume", n, point, 4, api.ErrNone)
		restart(t, n, disk.Picks{})
	}
	// It may be made anew.
	must(t, n.Disk().Remove("v4.1"))
	is(t, "P17.3: Make of one that was there", n.Make(4, plenty), 0)
	restart(t, n, disk.Picks{})
	state(t, "P17.3: Make of one that was there, and a start", n, true, 5, 3, 4, 9)
	has(t, "P17.3: Make of one that was there, and a start", n, 4)
	for _, name := range n.Disk().Names() {
		must(t, n.Disk().Remove(name))
	}
	must(t, n.Disk().SyncNames())
	restart(t, n, disk.Picks{})
	state(t, "P17.3: Start without any volume", n, true, 6)
}

// Without its data file a volume isn't there, either: ErrNone is wrapped then.
func TestStartWithoutADataFile(t *testing.T) {
	n := full(t, 3, 4)
	must(t, n.Disk().Remove("v4.1"), n.Disk().SyncNames())
	_, e := vol.Open(n.Disk(), 4, plenty)
	isAt(t, "P17.3: Open without a data file", e, api.ErrNone, "v4.1", 0)
	restart(t, n, disk.Picks{})
	state(t, "P17.3: Start without a data file", n, true, 1, 3)
	has(t, "P17.3: Start without a data file", n, 3, fulls...)
}

// A disk that ends while it is started: its error, and once more behind a crash.
func TestStartOfADiskThatEnds(t *testing.T) {
	refused := 0
	for deeds := range 5 {
		n := full(t, 3, 4)
		// What Open removes: two deeds of names.
		must(t, n.Disk().Create("c3.0"), n.Disk().Create("v4.2"), n.Disk().SyncNames(), n.Crash(disk.Picks{}), n.Disk().Arm(deeds))
		why := fmt.Sprintf("P17.3: Start with %d deeds", deeds)
		e := n.Start()
		life := 1
		if e != nil {
			refused, life = refused+1, 0
			is(t, why, e, map[bool]api.Code{true: api.ErrBusy, false: api.ErrDown}[deeds == 0])
		}
		state(t, why, n, e == nil && !n.Disk().Down(), life, 3, 4)
		restart(t, n, disk.Picks{})
		state(t, why+", and a start", n, true, life+1, 3, 4)
		has(t, why+", and a start", n, 3, fulls...)
		has(t, why+", and a start", n, 4, fulls...)
	}
	if refused != 4 {
		t.Errorf("P17.3: Start with 0 to 4 deeds: %d of them are too few", refused)
	}
}
