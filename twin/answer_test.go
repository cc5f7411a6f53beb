package twin_test

import (
	"fmt"
	"slices"
	"testing"

	"corncrib/api"
	"corncrib/dirs"
	"corncrib/sample"
	"corncrib/twin"
)

// told asks that the settled commands answer just so.
func told(t *testing.T, why string, p *twin.Pair, want []answer) {
	t.Helper()
	if n := p.Settled(); n != len(want) {
		t.Fatalf("P20.3: %s: Settled: %d; want %d", why, n, len(want))
	}
	for i, y := range want {
		if n, e := p.Answer(i); n != y.n || !sample.Is(e, y.code) {
			t.Fatalf("P20.3: %s: Answer of %d: %d, %v; want %d, code %d", why, i, n, e, y.n, y.code)
		}
	}
}

func TestAnswersOfCorn(t *testing.T) {
	p := twin.New()
	for i, c := range corn {
		asks(t, "corn", p, 1, c, i)
	}
	told(t, "corn, nothing shipped", p, nil)
	for i := range corn {
		ships(t, "corn", p, 1, 0)
		told(t, "corn, shipped one by one", p, cornTold[:i+1])
	}
	falls(t, "corn", p, 0, 0)
	told(t, "corn, by the other side", p, cornTold)
	rises(t, "corn", p, 0, 0)
	falls(t, "corn", p, 1, 0)
	told(t, "corn, by the first side again", p, cornTold)
	falls(t, "corn", p, 0, 0)
	told(t, "corn, with both sides down", p, cornTold)
	rises(t, "corn", p, 0, 0)
	told(t, "corn, risen", p, cornTold)
}

func TestAnswersAlone(t *testing.T) {
	for side := range 2 {
		p := twin.New()
		falls(t, "alone", p, side, 0)
		_, term := p.Lead()
		for i, c := range corn {
			asks(t, "alone", p, term, c, i)
			told(t, fmt.Sprint("corn without the side ", side), p, cornTold[:i+1])
		}
	}
}

func TestAnswersWithoutWhatWasLost(t *testing.T) {
	// The first side alone had the volume 1, so the other one makes another volume 1.
	p := twin.New()
	asks(t, "lost", p, 1, making(5), 0)
	falls(t, "lost", p, 0, 0)
	told(t, "lost", p, nil)
	if e, err := p.Map(0).Find(1); err != nil || e.Nodes != making(5).Nodes {
		t.Errorf("P20.3: the map of the side that fell: %+v, %v; want what it had", e, err)
	}
	asks(t, "lost", p, 2, dirs.Cmd{Kind: 2, Vol: 1, Epoch: 1}, 0)
	asks(t, "lost", p, 2, making(6), 1)
	asks(t, "lost", p, 2, dirs.Cmd{Kind: 2, Vol: 1, Epoch: 1}, 2)
	want := []answer{{0, api.ErrNone}, {1, 0}, {2, 0}}
	told(t, "lost", p, want)
	rises(t, "lost", p, 0, 0)
	told(t, "lost, and risen", p, want)
	falls(t, "lost", p, 1, 0)
	told(t, "lost, and told by the side that fell", p, want)
	if e, err := p.Map(0).Find(1); err != nil || e.Nodes != making(6).Nodes || !e.Sealed {
		t.Errorf("P20.3: the map of the side that rose: %+v, %v; want the other one's", e, err)
	}
}

func TestAnswersOfMoreVolumesThanThereMayBe(t *testing.T) {
	const most = 4096
	p := twin.New()
	falls(t, "many volumes", p, 1, 0)
	for i := range most + 2 {
		asks(t, "many volumes", p, 1, making(i), i)
	}
	for i, y := range map[int]answer{0: {1, 0}, most - 1: {most, 0}, most: {0, api.ErrFull}, most + 1: {0, api.ErrFull}, most + 2: {0, api.ErrNone}} {
		if n, e := p.Answer(i); n != y.n || !sample.Is(e, y.code) {
			t.Errorf("P20.3: many volumes: Answer of %d: %d, %v; want %d, code %d", i, n, e, y.n, y.code)
		}
	}
	if l := p.Map(0).All(); len(l) != most || l[most-1].Nodes != making(most-1).Nodes {
		t.Errorf("P20.3: many volumes: Map has %d", len(l))
	}
}

// change does to a map what can be done.
func change(m *dirs.Map) {
	for i := range 5 {
		m.Do(making(200 + i))
	}
	for _, x := range m.All() {
		m.Do(dirs.Cmd{Kind: 2, Vol: x.Vol, Epoch: x.Epoch})
		m.Do(dirs.Cmd{Kind: 4, Vol: x.Vol, Epoch: x.Epoch + 1, At: 1, Node: 254})
	}
}

func TestAMapIsTheCallers(t *testing.T) {
	for _, x := range pairs {
		p, want := x.made(t), x.state()
		for side := range 2 {
			m := p.Map(side)
			change(m)
			if len(m.All()) < 5 {
				t.Fatalf("%s: the map of %d wasn't changed", x.script, side)
			}
			stands(t, fmt.Sprint(x.script, ", and a changed map of ", side), p, want)
			if y := p.Map(side); y == m || y == p.Map(side) || y == p.Map(1-side) {
				t.Fatalf("P20.3: %s: the same map of %d twice", x.script, side)
			}
		}
	}
}

func TestAMapStays(t *testing.T) {
	for _, x := range pairs {
		p, s := x.made(t), x.state()
		var maps [2]*dirs.Map
		for side := range 2 {
			maps[side] = p.Map(side)
		}
		for round := range 3 {
			for side := range 2 {
				_, term := p.Lead()
				p.Ask(term, making(30+round))
				p.Ship(term)
				p.Rise(1 - side)
				p.Ask(term, dirs.Cmd{Kind: 2, Vol: 1, Epoch: 1 + round})
				p.Fall(side)
			}
		}
		for side := range 2 {
			has(t, fmt.Sprint(x.script, ": the map of ", side, ", told ahead of other calls"), maps[side], s.logs[side])
		}
	}
}

func TestLogsOfBothSides(t *testing.T) {
	// Of a side that is down, too: its log is as it was.
	for i := range 10 {
		for j := range i + 1 {
			p := twin.New()
			l := slices.Repeat(corn[:2], 10)
			for k := range i {
				asks(t, "both logs", p, 1, l[k], k)
			}
			for range j {
				ships(t, "both logs", p, 1, 0)
			}
			stands(t, fmt.Sprint("both logs, of ", i, " and ", j), p, state{0, 1, j, [2]bool{true, true}, [2][]dirs.Cmd{l[:i], l[:j]}})
			falls(t, "both logs", p, 0, 0)
			stands(t, fmt.Sprint("both logs, of ", i, ", down, and ", j), p, state{1, 2, j, [2]bool{false, true}, [2][]dirs.Cmd{l[:i], l[:j]}})
			falls(t, "both logs", p, 1, 0)
			stands(t, fmt.Sprint("both logs, of ", i, " and ", j, ", both down"), p, state{1, 2, j, [2]bool{false, false}, [2][]dirs.Cmd{l[:i], l[:j]}})
		}
	}
}
