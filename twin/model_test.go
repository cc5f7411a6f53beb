package twin_test

import (
	"slices"
	"testing"

	"corncrib/api"
	"corncrib/dirs"
	"corncrib/sample"
	"corncrib/twin"
)

// model is a pair in other words: who led in which term, one behind the other, and what
// was answered, once and for all, when it was settled. How many are settled is reckoned
// from both logs, by what the word means.
type model struct {
	up     [2]bool
	logs   [2][]dirs.Cmd
	reigns []int // who led in the terms 1, 2, and so on
	said   []answer
	behind *dirs.Map // of what was answered
}

func newModel() *model {
	return &model{up: [2]bool{true, true}, reigns: []int{0}, behind: dirs.New()}
}

func (x *model) lead() int {
	return x.reigns[len(x.reigns)-1]
}

// state tells what the pair is to be.
func (x *model) state() state {
	return state{x.lead(), len(x.reigns), len(x.said), x.up, x.logs}
}

// isUp tells whether a side is there, and up.
func (x *model) isUp(side int) bool {
	return side == 0 && x.up[0] || side == 1 && x.up[1]
}

// settle answers what both have, or what the one has that leads alone.
func (x *model) settle() {
	l := x.logs[x.lead()]
	if !x.up[x.lead()] {
		return
	}
	n := len(l)
	if x.up[1-x.lead()] {
		n = 0
		for n < len(x.logs[0]) && n < len(x.logs[1]) && x.logs[0][n] == x.logs[1][n] {
			n++
		}
	}
	for len(x.said) < n {
		told, e := x.behind.Do(l[len(x.said)])
		x.said = append(x.said, answer{told, codeOf(e)})
	}
}

// codeOf tells the code of what dirs told.
func codeOf(e error) api.Code {
	if e == nil {
		return 0
	}
	return e.(api.Code)
}

// what a call does.
const (
	ask = iota
	ship
	fall
	rise
	tell // an Answer
)

// call is a call, and with what: n is a term, a side, or the number of a command.
type call struct {
	kind, n int
	c       dirs.Cmd
}

// why tells the code of a call: 0, if it goes.
func (x *model) why(d call) api.Code {
	lead := x.lead()
	both := x.up[0] && x.up[1]
	none := !x.up[0] && !x.up[1]
	wrongs := []struct {
		kind int
		code api.Code
		is   bool
	}{
		{ask, api.ErrDown, none},
		{ask, api.ErrStale, d.n != len(x.reigns)},
		{ship, api.ErrDown, !both},
		{ship, api.ErrStale, d.n != len(x.reigns)},
		{ship, api.ErrNone, len(x.logs[lead]) == len(x.logs[1-lead])},
		{fall, api.ErrArg, d.n != 0 && d.n != 1},
		{fall, api.ErrDown, !x.isUp(d.n)},
		{rise, api.ErrArg, d.n != 0 && d.n != 1},
		{rise, api.ErrBusy, x.isUp(d.n)},
		{rise, api.ErrDown, none && d.n != lead},
		{tell, api.ErrNone, d.n < 0 || d.n >= len(x.said)},
	}
	for _, w := range wrongs {
		if w.kind == d.kind && w.is {
			return w.code
		}
	}
	return 0
}

// do does a call, and tells what is to be told.
func (x *model) do(d call) (int, api.Code) {
	if code := x.why(d); code != 0 {
		return 0, code
	}
	n, lead := 0, x.lead()
	switch d.kind {
	case ask:
		n = len(x.logs[lead])
		x.logs[lead] = slices.Concat(x.logs[lead], []dirs.Cmd{d.c})
	case ship:
		x.logs[1-lead] = slices.Clone(x.logs[lead][:len(x.logs[1-lead])+1])
	case fall:
		x.up[d.n] = false
		if x.up[1-d.n] && d.n == lead {
			x.reigns = append(x.reigns, 1-d.n)
		}
	case rise:
		x.up[d.n] = true
		if x.up[1-d.n] {
			x.logs[d.n] = slices.Clone(x.logs[1-d.n])
		} else {
			x.reigns = append(x.reigns, d.n)
		}
	default:
		return x.said[d.n].n, x.said[d.n].code
	}
	x.settle()
	return n, 0
}

// do does a call, and tells what it told.
func do(p *twin.Pair, d call) (n int, e error) {
	switch d.kind {
	case ask:
		n, e = p.Ask(d.n, d.c)
	case ship:
		e = p.Ship(d.n)
	case fall:
		e = p.Fall(d.n)
	case rise:
		e = p.Rise(d.n)
	default:
		n, e = p.Answer(d.n)
	}
	return n, e
}

// same does calls with a pair, and holds each against the model.
func same(t *testing.T, l []call) {
	t.Helper()
	p, x := twin.New(), newModel()
	s := seen{side: 0, term: 1}
	for i, d := range l {
		n, e := do(p, d)
		want, code := x.do(d)
		if !sample.Is(e, code) || n != want {
			t.Fatalf("P20.1 to P20.3: call %d of %+v: %d, %v; want %d, code %d", i, l, n, e, want, code)
		}
		stood(t, l[:i+1], p, x)
		s.follow(t, l[:i+1], p, e)
	}
	stands(t, "behind all calls", p, x.state())
	told(t, "behind all calls", p, x.said)
}

// stood asks in short that a pair is as its model.
func stood(t *testing.T, l []call, p *twin.Pair, x *model) {
	t.Helper()
	side, term := p.Lead()
	a, b := p.Logs()
	want := x.state()
	if side != want.lead || term != want.term || p.Settled() != want.settled || a != len(x.logs[0]) || b != len(x.logs[1]) {
		t.Fatalf("P20.3: behind %+v: Lead %d, %d, Settled %d, Logs %d, %d; want %d, %d, %d, %d, %d", l, side, term, p.Settled(), a, b, want.lead, want.term, want.settled, len(x.logs[0]), len(x.logs[1]))
	}
	n := min(a, b)
	if x.up[0] && x.up[1] && !slices.Equal(x.logs[0][:n], x.logs[1][:n]) {
		t.Fatalf("behind %+v the model's logs don't agree: %+v, %+v", l, x.logs[0], x.logs[1])
	}
}

// seen is what a pair told so far, asked without a model.
type seen struct {
	side, term int
	said       []answer
}

// follow asks that what was settled stays, with its answer, and that the term rises by
// one with a change of who leads, and with a rise of the one that led last, and with
// nothing else.
func (s *seen) follow(t *testing.T, l []call, p *twin.Pair, e error) {
	t.Helper()
	if n := p.Settled(); n < len(s.said) {
		t.Fatalf("P20.4: behind %+v: Settled %d; it was %d", l, n, len(s.said))
	}
	for i := range p.Settled() {
		n, e := p.Answer(i)
		y := answer{n, codeOf(e)}
		if i == len(s.said) {
			s.said = append(s.said, y)
		}
		if s.said[i] != y {
			t.Fatalf("P20.4: behind %+v: Answer of %d: %+v; it was %+v", l, i, y, s.said[i])
		}
	}
	d := l[len(l)-1]
	side, term := p.Lead()
	// If the other one had been up it would have led since the fall.
	back := d.kind == rise && d.n == s.side && e == nil
	if term != s.term+number(side != s.side || back) {
		t.Fatalf("P20.2: behind %+v: the term %d behind %d, with the side %d behind %d", l, term, s.term, side, s.side)
	}
	s.side, s.term = side, term
}

// TestCallsInEachOrder holds all rows of a few calls against the model.
func TestCallsInEachOrder(t *testing.T) {
	const deep = 7
	var more func(l []call, x *model)
	more = func(l []call, x *model) {
		if len(l) == deep {
			same(t, l)
			return
		}
		term := len(x.reigns)
		for _, d := range []call{
			{ask, term, making(len(l))}, {ship, term, dirs.Cmd{}},
			{fall, 0, dirs.Cmd{}}, {fall, 1, dirs.Cmd{}}, {rise, 0, dirs.Cmd{}}, {rise, 1, dirs.Cmd{}},
		} {
			y := behind(l)
			// One that goes wrong has nothing behind it that wouldn't come without it.
			if _, code := y.do(d); code != 0 && len(l) < deep-1 {
				continue
			}
			more(append(slices.Clone(l), d), y)
		}
	}
	more(nil, newModel())
}

// behind tells the model behind calls.
func behind(l []call) *model {
	x := newModel()
	for _, d := range l {
		x.do(d)
	}
	return x
}

const callSize = 3 // bytes of a call

// calls are such as bytes say: mostly of the term by then, and of the two sides; more
// are asked and shipped than fall and rise.
func calls(script []byte) []call {
	var l []call
	x := newModel()
	for b := range slices.Chunk(script, callSize) {
		if len(b) < callSize || len(l) == 150 {
			break
		}
		d := call{kind: [...]int{ask, ask, ask, ask, ask, ask, ship, ship, ship, ship, fall, fall, rise, rise, tell, tell}[b[0]%16]}
		switch d.kind {
		case ask, ship:
			d.n = len(x.reigns) + int(b[0]/16)/14 - int(b[0]/16)/15*2
			d.c = command(x, b)
		case tell:
			d.n = int(b[1])%(len(x.said)+3) - 1
		default:
			d.n = int(b[1]%2) + int(b[1]/2)/120 - int(b[1]/2)/125*3
		}
		x.do(d)
		l = append(l, d)
	}
	return l
}

// command tells one of those that mostly mean something to the side that leads.
func command(x *model, b []byte) dirs.Cmd {
	c := dirs.Cmd{Kind: [...]int{1, 2, 3, 4, 1, 2, 3, 4, 1, 2, 3, 4, 1, 4, 5, 0}[b[1]%16]}
	m, _ := dirs.Replay(x.logs[x.lead()])
	c.Vol = 1 + int(b[1]/16)%(len(m.All())+1)
	if e, err := m.Find(c.Vol); err == nil {
		c.Epoch = e.Epoch - int(b[2]/16)/14
	}
	c.At, c.Node = int(b[2]%3), int(b[2]%32)
	c.Nodes = [3]int{int(b[2]), int(b[2] / 2), int(b[2]/2) + 1}
	return c
}

// run holds the calls that bytes say against the model.
func run(t *testing.T, script []byte) {
	t.Helper()
	same(t, calls(script))
}

// outcome is what a call of a kind came to.
type outcome struct {
	kind int
	code api.Code
}

func TestScripts(t *testing.T) {
	came := map[outcome]int{}
	for n := range 500 {
		l := calls(sample.Bytes(callSize*120 + n))
		same(t, l)
		x := newModel()
		for _, d := range l {
			_, code := x.do(d)
			came[outcome{d.kind, code}]++
		}
	}
	// So that the scripts come to each end of each call, and not to a few alone.
	for kind, codes := range [][]api.Code{
		{0, api.ErrDown, api.ErrStale},
		{0, api.ErrDown, api.ErrStale, api.ErrNone},
		{0, api.ErrArg, api.ErrDown},
		{0, api.ErrArg, api.ErrBusy, api.ErrDown},
		{0, api.ErrArg, api.ErrNone, api.ErrThere, api.ErrSealed, api.ErrStale},
	} {
		for _, code := range codes {
			if n := came[outcome{kind, code}]; n < 50 {
				t.Errorf("calls of the kind %d with the code %d: %d", kind, code, n)
			}
		}
	}
}

func FuzzTwin(f *testing.F) {
	f.Add([]byte{0, 0, 1, 6, 0, 0, 11, 0, 0, 0, 0, 2, 13, 0, 0, 15, 1, 0})
	f.Add([]byte{0, 0, 1, 0, 4, 9, 6, 0, 0, 11, 1, 0, 11, 0, 0, 13, 1, 0, 13, 0, 0, 13, 1, 0})
	f.Add(sample.Bytes(callSize * 40))
	f.Fuzz(run)
}

func TestAModelOfTheExample(t *testing.T) {
	// What the model says of the chapter's example, so that it isn't wrong as well.
	x := newModel()
	for i, y := range []struct {
		d       call
		n       int
		code    api.Code
		settled int
	}{
		{call{ask, 1, corn[0]}, 0, 0, 0},
		{call{tell, 0, dirs.Cmd{}}, 0, api.ErrNone, 0},
		{call{ship, 1, dirs.Cmd{}}, 0, 0, 1},
		{call{tell, 0, dirs.Cmd{}}, 1, 0, 1},
		{call{ship, 1, dirs.Cmd{}}, 0, api.ErrNone, 1},
	} {
		if n, code := x.do(y.d); n != y.n || code != y.code || len(x.said) != y.settled {
			t.Errorf("the model's call %d: %d, %d, %d settled; want %d, %d, %d", i, n, code, len(x.said), y.n, y.code, y.settled)
		}
	}
}
