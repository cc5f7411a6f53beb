package twin_test

import (
	"fmt"
	"slices"
	"testing"

	"corncrib/api"
	"corncrib/dirs"
	"corncrib/twin"
)

func TestSidesThatAreNotThere(t *testing.T) {
	for _, x := range pairs {
		p := x.made(t)
		for _, side := range far {
			falls(t, x.script, p, side, api.ErrArg)
			rises(t, x.script, p, side, api.ErrArg)
		}
		stands(t, x.script+", and other sides", p, x.state())
	}
}

func TestFallOfOneThatIsDown(t *testing.T) {
	for _, x := range pairs {
		p := x.made(t)
		for side, up := range x.up {
			if up {
				continue
			}
			for range 2 {
				falls(t, x.script, p, side, api.ErrDown)
				stands(t, fmt.Sprint(x.script, ", and Fall of ", side, ", which is down"), p, x.state())
			}
		}
	}
}

func TestFallOfTheOneThatLeads(t *testing.T) {
	for _, x := range pairs {
		if !x.up[0] || !x.up[1] {
			continue
		}
		p, want := x.made(t), x.state()
		falls(t, x.script, p, x.lead, 0)
		want.up[x.lead] = false
		want.lead, want.term = 1-x.lead, x.term+1
		want.settled = len(want.logs[want.lead])
		stands(t, x.script+", and Fall of the one that leads", p, want)
		// It serves, in its term alone.
		refuses(t, x.script, p, x.term, corn[12], api.ErrStale)
		ships(t, x.script, p, x.term+1, api.ErrDown)
		asks(t, x.script, p, x.term+1, corn[12], want.settled)
		want.logs[want.lead] = append(want.logs[want.lead], corn[12])
		want.settled++
		stands(t, x.script+", and Fall of the one that leads, and Ask", p, want)
	}
}

func TestFallOfTheOneThatFollows(t *testing.T) {
	for _, x := range pairs {
		if !x.up[0] || !x.up[1] {
			continue
		}
		p, want := x.made(t), x.state()
		falls(t, x.script, p, 1-x.lead, 0)
		want.up[1-x.lead] = false
		want.settled = len(want.logs[x.lead])
		stands(t, x.script+", and Fall of the one that follows", p, want)
		asks(t, x.script, p, x.term, corn[12], want.settled)
		want.logs[want.lead] = append(want.logs[want.lead], corn[12])
		want.settled++
		stands(t, x.script+", and Fall of the one that follows, and Ask", p, want)
	}
}

func TestFallOfTheLastOne(t *testing.T) {
	for _, x := range pairs {
		if x.up[0] == x.up[1] {
			continue
		}
		p, want := x.made(t), x.state()
		falls(t, x.script, p, x.lead, 0)
		want.up[x.lead] = false
		stands(t, x.script+", and Fall of the last one", p, want)
		refuses(t, x.script, p, x.term, corn[0], api.ErrDown)
		ships(t, x.script, p, x.term, api.ErrDown)
		stands(t, x.script+", and Fall of the last one, Ask and Ship", p, want)
	}
}

func TestRiseOfOneThatIsUp(t *testing.T) {
	for _, x := range pairs {
		p := x.made(t)
		for side, up := range x.up {
			if !up {
				continue
			}
			for range 2 {
				rises(t, x.script, p, side, api.ErrBusy)
				stands(t, fmt.Sprint(x.script, ", and Rise of ", side, ", which is up"), p, x.state())
			}
		}
	}
}

func TestRiseWhileTheOtherOneIsUp(t *testing.T) {
	for _, x := range pairs {
		if x.up[0] == x.up[1] {
			continue
		}
		p, want := x.made(t), x.state()
		rises(t, x.script, p, 1-x.lead, 0)
		want.up[1-x.lead] = true
		want.logs[1-x.lead] = want.logs[x.lead]
		stands(t, x.script+", and Rise of the other one", p, want)
		ships(t, x.script, p, x.term, api.ErrNone)
		apart(t, x.script, p, want)
	}
}

// apart asks a pair with both sides up, and whose logs are alike, for so many commands,
// and the one that follows, when it leads alone, for others: one log must not write
// over the other one.
func apart(t *testing.T, why string, p *twin.Pair, want state) {
	t.Helper()
	leader, follower := want.lead, 1-want.lead
	l := want.logs[leader]
	for i := range 5 {
		asks(t, why, p, want.term, making(10+i), len(l)+i)
		want.logs[leader] = append(slices.Clone(want.logs[leader]), making(10+i))
	}
	stands(t, why+", and more", p, want)
	falls(t, why, p, leader, 0)
	want.lead, want.term, want.up[leader] = follower, want.term+1, false
	for i := range 3 {
		asks(t, why, p, want.term, making(20+i), len(l)+i)
		want.logs[follower] = append(slices.Clone(want.logs[follower]), making(20+i))
	}
	want.settled = len(l) + 3
	stands(t, why+", and others", p, want)
}

func TestLogsAreApart(t *testing.T) {
	// Of each length, as that tells how much room there is behind a log.
	for n := range 40 {
		p := twin.New()
		var l []dirs.Cmd
		falls(t, "apart", p, 1, 0)
		for i := range n {
			asks(t, "apart", p, 1, making(100+i), i)
			l = append(l, making(100+i))
		}
		rises(t, "apart", p, 1, 0)
		apart(t, fmt.Sprint("apart behind ", n), p, state{0, 1, n, [2]bool{true, true}, [2][]dirs.Cmd{l, l}})
	}
}

func TestRiseOfTheOneThatLedLast(t *testing.T) {
	for _, x := range pairs {
		if x.up[0] || x.up[1] {
			continue
		}
		p, want := x.made(t), x.state()
		rises(t, x.script, p, x.lead, 0)
		want.up[x.lead], want.term = true, x.term+1
		stands(t, x.script+", and Rise of the one that led last", p, want)
		refuses(t, x.script, p, x.term, corn[12], api.ErrStale)
		ships(t, x.script, p, want.term, api.ErrDown)
		// Then of the second one.
		rises(t, x.script, p, 1-x.lead, 0)
		want.up[1-x.lead] = true
		want.logs[1-x.lead] = want.logs[x.lead]
		stands(t, x.script+", and Rise of the one that led last, and of the other one", p, want)
		apart(t, x.script+", and Rise of both", p, want)
	}
}

func TestRiseOfTheOneThatDidNotLeadLast(t *testing.T) {
	for _, x := range pairs {
		if x.up[0] || x.up[1] {
			continue
		}
		p, want := x.made(t), x.state()
		for range 3 {
			rises(t, x.script, p, 1-x.lead, api.ErrDown)
			stands(t, x.script+", and Rise of the one that didn't lead last", p, want)
			falls(t, x.script, p, 1-x.lead, api.ErrDown)
		}
		rises(t, x.script, p, x.lead, 0)
		rises(t, x.script, p, 1-x.lead, 0)
		want.up, want.term = [2]bool{true, true}, x.term+1
		want.logs[1-x.lead] = want.logs[x.lead]
		stands(t, x.script+", and Rise of it, of the one that led last, and of it", p, want)
	}
}

// TestSidesByTurns has the one that leads fall again and again, with a command that it
// alone had, and the other one go on.
func TestSidesByTurns(t *testing.T) {
	p := twin.New()
	want := state{term: 1, up: [2]bool{true, true}}
	for i := range 60 {
		leader, follower := want.lead, 1-want.lead
		l := slices.Clone(want.logs[leader])
		asks(t, "by turns", p, want.term, making(3*i), len(l))
		ships(t, "by turns", p, want.term, 0)
		l = append(l, making(3*i))
		asks(t, "by turns", p, want.term, making(3*i+1), len(l))
		want.logs[leader], want.logs[follower], want.settled = append(slices.Clone(l), making(3*i+1)), l, len(l)
		stands(t, fmt.Sprint("turn ", i), p, want)
		falls(t, "by turns", p, leader, 0)
		want.lead, want.term, want.up[leader] = follower, want.term+1, false
		stands(t, fmt.Sprint("turn ", i, ", behind the fall"), p, want)
		asks(t, "by turns", p, want.term, making(3*i+2), len(l))
		want.logs[follower] = append(slices.Clone(l), making(3*i+2))
		want.settled++
		stands(t, fmt.Sprint("turn ", i, ", alone"), p, want)
		rises(t, "by turns", p, leader, 0)
		want.logs[leader], want.up[leader] = want.logs[follower], true
		stands(t, fmt.Sprint("turn ", i, ", behind the rise"), p, want)
	}
	if want.term != 61 || want.settled != 120 {
		t.Errorf("P20.2: behind 60 turns: the term %d, %d settled; want 61, 120", want.term, want.settled)
	}
}

// TestTheOneThatLedLastByTurns has both sides fall, and the one that led last come back.
func TestTheOneThatLedLastByTurns(t *testing.T) {
	for lead := range 2 {
		p := twin.New()
		falls(t, "who led last", p, 1-lead, 0)
		want := state{lead: lead, term: 1 + lead, up: [2]bool{lead == 0, lead == 1}}
		for i := range 60 {
			asks(t, "who led last", p, want.term, making(i), i)
			want.logs[lead] = append(want.logs[lead], making(i))
			want.settled++
			falls(t, "who led last", p, lead, 0)
			want.up[lead] = false
			stands(t, fmt.Sprint("turn ", i, ", both down"), p, want)
			rises(t, "who led last", p, 1-lead, api.ErrDown)
			rises(t, "who led last", p, lead, 0)
			want.up[lead] = true
			want.term++
			stands(t, fmt.Sprint("turn ", i, ", risen"), p, want)
		}
	}
}
