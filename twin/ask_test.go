package twin_test

import (
	"fmt"
	"math"
	"slices"
	"testing"

	"corncrib/api"
	"corncrib/dirs"
	"corncrib/twin"
)

// others are terms that aren't this one: those near, those of elder leaders, and such
// as would be it, if they were cut or went round.
func others(term int) []int {
	l := append([]int{0, 1, 2, 3, 4, 5, 6, term - 1, term + 1, -term, term + 256, term + 65536, term + 1<<32, term - 1<<32, term | math.MinInt}, far...)
	return slices.DeleteFunc(l, func(n int) bool { return n == term })
}

func TestAskOfAnotherTerm(t *testing.T) {
	for _, x := range pairs {
		p, code := x.made(t), api.ErrStale
		if !x.up[x.lead] {
			code = api.ErrDown
		}
		for _, term := range others(x.term) {
			for _, c := range []dirs.Cmd{corn[0], corn[7], {}} {
				refuses(t, x.script, p, term, c, code)
			}
		}
		stands(t, x.script+", and Ask of other terms", p, x.state())
	}
}

func TestAskWithBothSidesDown(t *testing.T) {
	n := 0
	for _, x := range pairs {
		if x.up[0] || x.up[1] {
			continue
		}
		n++
		p := x.made(t)
		for _, c := range corn {
			refuses(t, x.script, p, x.term, c, api.ErrDown)
		}
		stands(t, x.script+", and Ask", p, x.state())
	}
	if n < 4 {
		t.Errorf("%d pairs have both sides down", n)
	}
}

func TestAsk(t *testing.T) {
	for _, x := range pairs {
		if !x.up[x.lead] {
			continue
		}
		p, want := x.made(t), x.state()
		for _, c := range corn {
			asks(t, x.script, p, x.term, c, len(want.logs[x.lead]))
			want.logs[x.lead] = append(want.logs[x.lead], c)
			if !x.up[1-x.lead] {
				want.settled = len(want.logs[x.lead])
			}
			stands(t, fmt.Sprintf("%s, and Ask of %+v", x.script, c), p, want)
		}
	}
}

func TestAskOfTheSameCommand(t *testing.T) {
	p := twin.New()
	for i := range 20 {
		asks(t, "the same one", p, 1, corn[0], i)
	}
	// None is settled but by what follows.
	stands(t, "the same one", p, state{term: 1, up: [2]bool{true, true}, logs: [2][]dirs.Cmd{slices.Repeat(corn[:1], 20), nil}})
	falls(t, "the same one", p, 1, 0)
	for i := range 20 {
		asks(t, "the same one", p, 1, corn[0], 20+i)
	}
	stands(t, "the same one", p, state{0, 1, 40, [2]bool{true, false}, [2][]dirs.Cmd{slices.Repeat(corn[:1], 40), nil}})
	for i := range 40 {
		if n, e := p.Answer(i); n != i+1 || e != nil {
			t.Errorf("P20.3: the same one: Answer of %d: %d, %v; want %d", i, n, e, i+1)
		}
	}
}

func TestAskOfAnyCommand(t *testing.T) {
	p, want := twin.New(), state{term: 1, up: [2]bool{true, false}}
	falls(t, "any command", p, 1, 0)
	asks(t, "any command", p, 1, making(1), 0)
	want.logs[0] = append(want.logs[0], making(1))
	for _, n := range append([]int{0, 1}, far...) {
		for kind := range 6 {
			c := dirs.Cmd{Kind: kind, Vol: 1, Epoch: n, At: n, Node: n, Nodes: [3]int{n, 7, 8}}
			asks(t, "any command", p, 1, c, len(want.logs[0]))
			want.logs[0] = append(want.logs[0], c)
		}
		c := dirs.Cmd{Kind: n, Vol: n, Epoch: n, At: n, Node: n, Nodes: [3]int{n, n, n}}
		asks(t, "any command", p, 1, c, len(want.logs[0]))
		want.logs[0] = append(want.logs[0], c)
	}
	want.settled = len(want.logs[0])
	stands(t, "any command", p, want)
	rises(t, "any command", p, 1, 0)
	want.up[1], want.logs[1] = true, want.logs[0]
	stands(t, "any command, and the other side", p, want)
}

func TestShip(t *testing.T) {
	for _, x := range pairs {
		if !x.up[0] || !x.up[1] {
			continue
		}
		p, want := x.made(t), x.state()
		all, next := want.logs[x.lead], len(want.logs[1-x.lead])
		for next < len(all) {
			ships(t, x.script, p, x.term, 0)
			next++
			want.logs[1-x.lead] = all[:next]
			want.settled = next
			stands(t, fmt.Sprint(x.script, ", and Ship up to ", next), p, want)
		}
		for range 3 {
			ships(t, x.script, p, x.term, api.ErrNone)
			stands(t, x.script+", and nothing left to ship", p, want)
		}
		asks(t, x.script, p, x.term, corn[12], len(all))
		ships(t, x.script, p, x.term, 0)
		all = append(slices.Clone(all), corn[12])
		want.settled, want.logs = len(all), [2][]dirs.Cmd{all, all}
		stands(t, x.script+", and one more", p, want)
		ships(t, x.script, p, x.term, api.ErrNone)
	}
}

func TestShipOfAnotherTerm(t *testing.T) {
	for _, x := range pairs {
		p, code := x.made(t), api.ErrStale
		if !x.up[0] || !x.up[1] {
			code = api.ErrDown
		}
		for _, term := range others(x.term) {
			ships(t, x.script, p, term, code)
		}
		stands(t, x.script+", and Ship of other terms", p, x.state())
	}
}

func TestShipWithASideDown(t *testing.T) {
	var seen [3]int
	for _, x := range pairs {
		if x.up[0] && x.up[1] {
			continue
		}
		seen[number(x.up[0])+2*number(x.up[1])]++
		p := x.made(t)
		for range 3 {
			ships(t, x.script, p, x.term, api.ErrDown)
		}
		stands(t, x.script+", and Ship", p, x.state())
	}
	if slices.Min(seen[:]) < 4 {
		t.Errorf("of the sides' ways to be down there are %v", seen)
	}
}

func TestLongLogs(t *testing.T) {
	const many = 3000
	p := twin.New()
	var l []dirs.Cmd
	for i := range many {
		c := making(i)
		if i%3 > 0 {
			c = dirs.Cmd{Kind: 1 + i%3, Vol: i/3 + 1, Epoch: i % 3}
		}
		asks(t, "long logs", p, 1, c, i)
		l = append(l, c)
		if i%2 == 0 {
			ships(t, "long logs", p, 1, 0)
		}
	}
	both := [2]bool{true, true}
	stands(t, "long logs", p, state{0, 1, many / 2, both, [2][]dirs.Cmd{l, l[:many/2]}})
	for range many / 2 {
		ships(t, "long logs", p, 1, 0)
	}
	ships(t, "long logs", p, 1, api.ErrNone)
	stands(t, "long logs", p, state{0, 1, many, both, [2][]dirs.Cmd{l, l}})
}
