package twin_test

import (
	"bytes"
	"fmt"
	"math"
	"slices"
	"testing"

	"corncrib/api"
	"corncrib/dirs"
	"corncrib/sample"
	"corncrib/twin"
)

// far are numbers that are no side, and that are far off, among them those that would
// be one if they went round, or were cut to 1, 2 or 4 bytes.
var far = []int{
	math.MinInt, math.MinInt + 1, math.MinInt + 2, -1 << 32, -1<<32 + 1, math.MinInt32, -65536, -65535, -256, -255, -2, -1,
	2, 3, 256, 257, 65535, 65536, 65537, math.MaxInt32, 1 << 31, math.MaxUint32, 1 << 32, 1<<32 + 1, 1 << 62, math.MaxInt - 1, math.MaxInt,
}

// corn are commands of all kinds, many of which hang on those ahead of them, or are
// refused.
var corn = []dirs.Cmd{
	{Kind: 1, Nodes: [3]int{1, 2, 3}},
	{Kind: 2, Vol: 1, Epoch: 1},
	{Kind: 1, Nodes: [3]int{1, 1, 2}},
	{Kind: 1, Nodes: [3]int{4, 5, 6}},
	{Kind: 3, Vol: 1, Epoch: 2},
	{Kind: 2, Vol: 1, Epoch: 1},
	{Kind: 4, Vol: 2, Epoch: 1, At: 0, Node: 9},
	{Kind: 5, Vol: 2, Epoch: 2},
	{Kind: 4, Vol: 2, Epoch: 2, At: 1, Node: 9},
	{Kind: 2, Vol: 2, Epoch: 2},
	{Kind: 2, Vol: 2, Epoch: 3},
	{Kind: 3, Vol: 3, Epoch: 1},
	{Kind: 1, Nodes: [3]int{255, 0, 7}},
	{Kind: 3, Vol: 3, Epoch: 1},
}

// cornTold is what corn's commands answer, one behind the other from an empty map.
var cornTold = []answer{
	{1, 0}, {2, 0}, {0, api.ErrArg}, {2, 0}, {3, 0}, {0, api.ErrStale}, {2, 0},
	{0, api.ErrArg}, {0, api.ErrThere}, {3, 0}, {0, api.ErrSealed}, {0, api.ErrNone}, {3, 0}, {0, api.ErrThere},
}

// answer is what a command answers.
type answer struct {
	n    int
	code api.Code
}

// making is a command to make a volume, of which there are 250 that are not alike.
func making(i int) dirs.Cmd {
	return dirs.Cmd{Kind: 1, Nodes: [3]int{i % 250, i%250 + 1, i%250 + 2}}
}

// state is what a pair is to be.
type state struct {
	lead, term, settled int
	up                  [2]bool
	logs                [2][]dirs.Cmd
}

// stands asks that a pair is just so, by all that it tells, and by what it refuses.
func stands(t *testing.T, why string, p *twin.Pair, want state) {
	t.Helper()
	if side, term := p.Lead(); side != want.lead || term != want.term {
		t.Fatalf("P20.3: %s: Lead: %d, %d; want %d, %d", why, side, term, want.lead, want.term)
	}
	if n := p.Settled(); n != want.settled {
		t.Fatalf("P20.3: %s: Settled: %d; want %d", why, n, want.settled)
	}
	if a, b := p.Logs(); a != len(want.logs[0]) || b != len(want.logs[1]) {
		t.Fatalf("P20.3: %s: Logs: %d, %d; want %d, %d", why, a, b, len(want.logs[0]), len(want.logs[1]))
	}
	for side, l := range want.logs {
		has(t, fmt.Sprint(why, ": Map of ", side), p.Map(side), l)
	}
	for _, side := range far {
		if m := p.Map(side); m != nil {
			t.Fatalf("P20.3: %s: Map of %d: %v; want nil", why, side, m.All())
		}
	}
	answers(t, why, p, want.logs[want.lead][:want.settled])
	isUp(t, why, p, want)
}

// has asks that a map is the one behind these commands.
func has(t *testing.T, why string, m *dirs.Map, l []dirs.Cmd) {
	t.Helper()
	if m == nil {
		t.Fatalf("P20.3: %s: nil", why)
	}
	want, _ := dirs.Replay(l)
	if !slices.Equal(m.All(), want.All()) || !bytes.Equal(m.Bytes(), want.Bytes()) {
		t.Fatalf("P20.3: %s: %v; want %v", why, m.All(), want.All())
	}
}

// answers asks what Answer tells of the settled commands, and of all others.
func answers(t *testing.T, why string, p *twin.Pair, settled []dirs.Cmd) {
	t.Helper()
	m := dirs.New()
	for i, c := range settled {
		want, wantErr := m.Do(c)
		if n, e := p.Answer(i); n != want || e != wantErr {
			t.Fatalf("P20.3: %s: Answer of %d, %+v: %d, %v; want %d, %v", why, i, c, n, e, want, wantErr)
		}
	}
	a, b := p.Logs()
	for _, i := range append([]int{len(settled), len(settled) + 1, a, b, max(a, b) - 1, a + b}, far...) {
		if i >= 0 && i < len(settled) {
			continue
		}
		if n, e := p.Answer(i); n != 0 || !sample.Is(e, api.ErrNone) {
			t.Fatalf("P20.3: %s: Answer of %d, with %d settled: %d, %v; want 0, ErrNone", why, i, len(settled), n, e)
		}
	}
}

// isUp asks by what changes nothing who is up: one that is may not rise, and one that
// isn't may not fall.
func isUp(t *testing.T, why string, p *twin.Pair, want state) {
	t.Helper()
	for side, up := range want.up {
		if up {
			if e := p.Rise(side); !sample.Is(e, api.ErrBusy) {
				t.Fatalf("P20.2: %s: Rise of %d, which is up: %v; want ErrBusy", why, side, e)
			}
		} else if e := p.Fall(side); !sample.Is(e, api.ErrDown) {
			t.Fatalf("P20.2: %s: Fall of %d, which is down: %v; want ErrDown", why, side, e)
		}
	}
	code := api.ErrStale
	if !want.up[want.lead] {
		code = api.ErrDown
	}
	if n, e := p.Ask(want.term-1, corn[0]); n != 0 || !sample.Is(e, code) {
		t.Fatalf("P20.1: %s: Ask of the term before: %d, %v; want 0, code %d", why, n, e, code)
	}
}

// asks asks that Ask tells this number.
func asks(t *testing.T, why string, p *twin.Pair, term int, c dirs.Cmd, want int) {
	t.Helper()
	if n, e := p.Ask(term, c); e != nil || n != want {
		t.Fatalf("P20.1: %s: Ask of %d, %+v: %d, %v; want %d", why, term, c, n, e, want)
	}
}

// refuses asks that Ask tells an error of this code, and 0 beside it.
func refuses(t *testing.T, why string, p *twin.Pair, term int, c dirs.Cmd, want api.Code) {
	t.Helper()
	if n, e := p.Ask(term, c); n != 0 || !sample.Is(e, want) {
		t.Fatalf("P20.1: %s: Ask of %d, %+v: %d, %v; want 0, code %d", why, term, c, n, e, want)
	}
}

// ships asks that Ship tells this code: 0 of no error.
func ships(t *testing.T, why string, p *twin.Pair, term int, want api.Code) {
	t.Helper()
	if e := p.Ship(term); !sample.Is(e, want) {
		t.Fatalf("P20.1: %s: Ship of %d: %v; want code %d", why, term, e, want)
	}
}

// falls asks that Fall tells this code: 0 of no error.
func falls(t *testing.T, why string, p *twin.Pair, side int, want api.Code) {
	t.Helper()
	if e := p.Fall(side); !sample.Is(e, want) {
		t.Fatalf("P20.2: %s: Fall of %d: %v; want code %d", why, side, e, want)
	}
}

// rises asks that Rise tells this code: 0 of no error.
func rises(t *testing.T, why string, p *twin.Pair, side int, want api.Code) {
	t.Helper()
	if e := p.Rise(side); !sample.Is(e, want) {
		t.Fatalf("P20.2: %s: Rise of %d: %v; want code %d", why, side, e, want)
	}
}

// pair is one that a script makes, and what is to come of it. The script's letters:
// a asks the next one of corn, s ships; f and F are falls of the sides 0 and 1, r and R
// are rises of them. The logs are told by the places in corn, as letters from a on.
type pair struct {
	script              string
	lead, term, settled int
	up                  [2]bool
	logs                [2]string
}

// pairs are of all kinds.
var pairs = []pair{
	{"", 0, 1, 0, [2]bool{true, true}, [2]string{"", ""}},
	{"a", 0, 1, 0, [2]bool{true, true}, [2]string{"a", ""}},
	{"aaa", 0, 1, 0, [2]bool{true, true}, [2]string{"abc", ""}},
	{"aaas", 0, 1, 1, [2]bool{true, true}, [2]string{"abc", "a"}},
	{"asasas", 0, 1, 3, [2]bool{true, true}, [2]string{"abc", "abc"}},
	{"F", 0, 1, 0, [2]bool{true, false}, [2]string{"", ""}},
	{"aaasF", 0, 1, 3, [2]bool{true, false}, [2]string{"abc", "a"}},
	{"aaasFaa", 0, 1, 5, [2]bool{true, false}, [2]string{"abcde", "a"}},
	{"aaasFaaR", 0, 1, 5, [2]bool{true, true}, [2]string{"abcde", "abcde"}},
	{"aaasFaaRaas", 0, 1, 6, [2]bool{true, true}, [2]string{"abcdefg", "abcdef"}},
	{"f", 1, 2, 0, [2]bool{false, true}, [2]string{"", ""}},
	{"aaasf", 1, 2, 1, [2]bool{false, true}, [2]string{"abc", "a"}},
	{"aaasfaaaaa", 1, 2, 6, [2]bool{false, true}, [2]string{"abc", "adefgh"}},
	{"aaafr", 1, 2, 0, [2]bool{true, true}, [2]string{"", ""}},
	{"aaasfr", 1, 2, 1, [2]bool{true, true}, [2]string{"a", "a"}},
	{"aaasfaar", 1, 2, 3, [2]bool{true, true}, [2]string{"ade", "ade"}},
	{"aaasfaaraas", 1, 2, 4, [2]bool{true, true}, [2]string{"adef", "adefg"}},
	{"aaasfaaraasF", 0, 3, 4, [2]bool{true, false}, [2]string{"adef", "adefg"}},
	{"aaasfaaraasFaR", 0, 3, 5, [2]bool{true, true}, [2]string{"adefh", "adefh"}},
	{"aaasfaaraasFaRa", 0, 3, 5, [2]bool{true, true}, [2]string{"adefhi", "adefh"}},
	{"Ff", 0, 1, 0, [2]bool{false, false}, [2]string{"", ""}},
	{"aaasFaf", 0, 1, 4, [2]bool{false, false}, [2]string{"abcd", "a"}},
	{"aaasFafr", 0, 2, 4, [2]bool{true, false}, [2]string{"abcd", "a"}},
	{"aaasFafra", 0, 2, 5, [2]bool{true, false}, [2]string{"abcde", "a"}},
	{"aaasFafraRa", 0, 2, 5, [2]bool{true, true}, [2]string{"abcdef", "abcde"}},
	{"fF", 1, 2, 0, [2]bool{false, false}, [2]string{"", ""}},
	{"aaasfaF", 1, 2, 2, [2]bool{false, false}, [2]string{"abc", "ad"}},
	{"aaasfaFR", 1, 3, 2, [2]bool{false, true}, [2]string{"abc", "ad"}},
	{"aaasfaFRaa", 1, 3, 4, [2]bool{false, true}, [2]string{"abc", "adef"}},
	{"aaasfaFRaar", 1, 3, 4, [2]bool{true, true}, [2]string{"adef", "adef"}},
	{"aaasfaFRaaraaf", 1, 3, 6, [2]bool{false, true}, [2]string{"adef", "adefgh"}},
	{"aaasfaFRFRFRaar", 1, 5, 4, [2]bool{true, true}, [2]string{"adef", "adef"}},
	{"asasasasasasasasasasasasas", 0, 1, 13, [2]bool{true, true}, [2]string{"abcdefghijklm", "abcdefghijklm"}},
}

// state tells what is to come of it.
func (x pair) state() state {
	s := state{lead: x.lead, term: x.term, settled: x.settled, up: x.up}
	for side, log := range x.logs {
		for _, letter := range log {
			s.logs[side] = append(s.logs[side], corn[letter-'a'])
		}
	}
	return s
}

// made tells the pair that the script makes; none of its calls tells an error.
func (x pair) made(t *testing.T) *twin.Pair {
	t.Helper()
	p, next := twin.New(), 0
	for i, letter := range x.script {
		_, term := p.Lead()
		var e error
		switch letter {
		case 'a':
			_, e = p.Ask(term, corn[next])
			next++
		case 's':
			e = p.Ship(term)
		case 'f', 'F':
			e = p.Fall(number(letter == 'F'))
		default:
			e = p.Rise(number(letter == 'R'))
		}
		if e != nil {
			t.Fatalf("P20.1, P20.2: %q: call %d: %v", x.script, i, e)
		}
	}
	return p
}

func number(b bool) int {
	if b {
		return 1
	}
	return 0
}

func TestPairs(t *testing.T) {
	for _, x := range pairs {
		p := x.made(t)
		// Nor does it change by being asked.
		for range 2 {
			stands(t, x.script, p, x.state())
		}
	}
}

func TestExample(t *testing.T) {
	p := twin.New()
	asks(t, "the chapter's example", p, 1, corn[0], 0)
	stands(t, "the chapter's example", p, state{0, 1, 0, [2]bool{true, true}, [2][]dirs.Cmd{corn[:1], nil}})
	ships(t, "the chapter's example", p, 1, 0)
	stands(t, "the chapter's example", p, state{0, 1, 1, [2]bool{true, true}, [2][]dirs.Cmd{corn[:1], corn[:1]}})
}

func TestExampleOfTheReadme(t *testing.T) {
	p := twin.New()
	asks(t, "the README", p, 1, making(1), 0)
	ships(t, "the README", p, 1, 0)
	if volume, e := p.Answer(0); volume != 1 || e != nil {
		t.Errorf("P20.3: the README: Answer of 0: %d, %v; want 1", volume, e)
	}
	falls(t, "the README", p, 0, 0)
	stands(t, "the README", p, state{1, 2, 1, [2]bool{false, true}, [2][]dirs.Cmd{{making(1)}, {making(1)}}})
	ships(t, "the README", p, 1, api.ErrDown)
	refuses(t, "the README", p, 1, making(2), api.ErrStale)
	rises(t, "the README", p, 0, 0)
	ships(t, "the README", p, 2, api.ErrNone)
	stands(t, "the README", p, state{1, 2, 1, [2]bool{true, true}, [2][]dirs.Cmd{{making(1)}, {making(1)}}})
}

func TestNew(t *testing.T) {
	both := [2]bool{true, true}
	a, b := twin.New(), twin.New()
	stands(t, "New", a, state{term: 1, up: both})
	asks(t, "one of two", a, 1, corn[0], 0)
	falls(t, "one of two", a, 0, 0)
	stands(t, "the other one of two", b, state{term: 1, up: both})
	asks(t, "the other one of two", b, 1, corn[3], 0)
	stands(t, "one of two", a, state{1, 2, 0, [2]bool{false, true}, [2][]dirs.Cmd{corn[:1], nil}})
	stands(t, "the other one of two", b, state{0, 1, 0, both, [2][]dirs.Cmd{corn[3:4], nil}})
}

func TestNoPair(t *testing.T) {
	var p *twin.Pair
	numbers := append([]int{0, 1}, far...)
	for range 2 {
		for _, n := range numbers {
			for _, c := range append([]dirs.Cmd{{}, {Kind: n, Vol: n, Epoch: n, At: n, Node: n, Nodes: [3]int{n, n, n}}}, corn...) {
				refuses(t, "no pair", p, n, c, api.ErrNil)
			}
			ships(t, "no pair", p, n, api.ErrNil)
			falls(t, "no pair", p, n, api.ErrNil)
			rises(t, "no pair", p, n, api.ErrNil)
			if x, e := p.Answer(n); x != 0 || !sample.Is(e, api.ErrNil) {
				t.Errorf("P20.3: Answer of %d of no pair: %d, %v; want 0, ErrNil", n, x, e)
			}
			if m := p.Map(n); m != nil {
				t.Errorf("P20.3: Map of %d of no pair: %v", n, m.All())
			}
		}
		side, term := p.Lead()
		if a, b := p.Logs(); side != 0 || term != 0 || p.Settled() != 0 || a != 0 || b != 0 {
			t.Errorf("P20.3: no pair: Lead %d, %d, Settled %d, Logs %d, %d; want 0", side, term, p.Settled(), a, b)
		}
	}
}

func TestAPairThatNewDidNotMake(t *testing.T) {
	// The chapter says nothing of it, but R1 does: no call panics. Both sides are down,
	// and the one that leads may rise.
	p := &twin.Pair{}
	stands(t, "a pair that New didn't make", p, state{})
	ships(t, "a pair that New didn't make", p, 0, api.ErrDown)
	rises(t, "a pair that New didn't make", p, 1, api.ErrDown)
	rises(t, "a pair that New didn't make", p, 0, 0)
	stands(t, "a pair that New didn't make, risen", p, state{term: 1, up: [2]bool{true, false}})
}
