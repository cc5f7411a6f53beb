package dirs_test

import (
	"slices"
	"testing"

	"corncrib/api"
	"corncrib/dirs"
	"corncrib/sample"
)

// model is a map in other words: the commands that had no error, one behind the other;
// what there is of a volume is reckoned anew from them, each time.
type model struct {
	l []dirs.Cmd
}

// volumes tells how many were made.
func (x *model) volumes() int {
	n := 0
	for _, c := range x.l {
		if c.Kind == 1 {
			n++
		}
	}
	return n
}

// entry tells what came of a volume that was made.
func (x *model) entry(volume int) dirs.Entry {
	y := dirs.Entry{Vol: volume}
	made := 0
	for _, c := range x.l {
		if c.Kind == 1 {
			made++
			if made == volume {
				y.Nodes = c.Nodes
				y.Epoch++
			}
			continue
		}
		if c.Vol != volume {
			continue
		}
		y.Epoch++
		y.Sealed = c.Kind == 2 || c.Kind == 4 && y.Sealed
		if c.Kind == 4 {
			y.Nodes[c.At] = c.Node
		}
	}
	return y
}

// all tells what came of all of them.
func (x *model) all() []dirs.Entry {
	var l []dirs.Entry
	for i := range x.volumes() {
		l = append(l, x.entry(i+1))
	}
	return l
}

// has tells whether one of a volume's three is this node.
func has(y dirs.Entry, node int) bool {
	return y.Nodes[0] == node || y.Nodes[1] == node || y.Nodes[2] == node
}

// why tells the code of a command: 0, if it goes.
func (x *model) why(c dirs.Cmd) api.Code {
	if c.Kind == 1 {
		if !can(c.Nodes[0], c.Nodes[1], c.Nodes[2]) {
			return api.ErrArg
		}
		if x.volumes() == most {
			return api.ErrFull
		}
		return 0
	}
	if c.Kind < 1 || c.Kind > 4 {
		return api.ErrArg
	}
	if c.Vol < 1 || c.Vol > x.volumes() {
		return api.ErrNone
	}
	y := x.entry(c.Vol)
	wrongs := []struct {
		kind int
		code api.Code
		is   bool
	}{
		{c.Kind, api.ErrStale, c.Epoch != y.Epoch},
		{2, api.ErrSealed, y.Sealed},
		{3, api.ErrThere, !y.Sealed},
		{4, api.ErrArg, c.At < 0 || c.At > 2 || c.Node < 0 || c.Node > 255},
		{4, api.ErrThere, has(y, c.Node)},
	}
	for _, w := range wrongs {
		if w.kind == c.Kind && w.is {
			return w.code
		}
	}
	return 0
}

// do does a command, and tells what is to be told.
func (x *model) do(c dirs.Cmd) (int, api.Code) {
	if code := x.why(c); code != 0 {
		return 0, code
	}
	x.l = append(x.l, c)
	if c.Kind == 1 {
		return x.volumes(), 0
	}
	return x.entry(c.Vol).Epoch, 0
}

// same does commands on an empty map, and holds each against the model.
func same(t *testing.T, l []dirs.Cmd) {
	t.Helper()
	m, x := dirs.New(), &model{}
	var before []dirs.Entry
	for i, c := range l {
		n, e := m.Do(c)
		want, code := x.do(c)
		if !sample.Is(e, code) || n != want {
			t.Fatalf("P19.1: command %d of %+v: %d, %v; want %d, code %d", i, l, n, e, want, code)
		}
		after := m.All()
		if !slices.Equal(after, x.all()) {
			t.Fatalf("P19.2: behind command %d of %+v: All: %v; want %v", i, l, after, x.all())
		}
		rises(t, c, n, e, before, after)
		before = after
	}
	replayed(t, "the commands of a script", l, x.all(), len(x.l))
}

// rises asks that a command without an error made one volume, or let one epoch rise by
// one, and left all others; and that one with an error left all.
func rises(t *testing.T, c dirs.Cmd, n int, e error, before, after []dirs.Entry) {
	t.Helper()
	want := slices.Clone(before)
	switch {
	case e != nil:
	case c.Kind == 1:
		want = append(want, dirs.Entry{Vol: len(before) + 1, Epoch: 1, Nodes: c.Nodes})
	default:
		want[c.Vol-1] = after[c.Vol-1]
		if n != before[c.Vol-1].Epoch+1 || want[c.Vol-1].Epoch != n {
			t.Fatalf("P19.3: behind %+v the epoch %d is %d, and told as %d", c, before[c.Vol-1].Epoch, want[c.Vol-1].Epoch, n)
		}
	}
	if !slices.Equal(after, want) {
		t.Fatalf("P19.3: behind %+v: %v; want %v", c, after, want)
	}
}

const cmdSize = 4 // bytes of a command

// commands are such as bytes say: of few volumes and nodes, and most often of the
// epoch that the volume has by then.
func commands(script []byte) []dirs.Cmd {
	var l []dirs.Cmd
	x := &model{}
	nodes := [...]int{0, 1, 2, 3, 4, 254, 255, 256, -1}
	for b := range slices.Chunk(script, cmdSize) {
		if len(b) < cmdSize || len(l) == 250 {
			break
		}
		c := dirs.Cmd{Kind: [...]int{1, 2, 3, 4, 2, 3, 4, 4, 2, 3, 4, 4, 2, 3, 5, 0}[b[0]%16]}
		c.Vol = int(b[1]%8) - int(b[0]/16)/15
		if c.Vol >= 1 && c.Vol <= x.volumes() {
			c.Epoch = x.entry(c.Vol).Epoch
		}
		c.Epoch += int(b[2]/16)/14 - int(b[2]/16)/15*2
		c.At = int(b[2]%16)*3/14 - int(b[2]%16)/15*4
		for i := range c.Nodes {
			c.Nodes[i] = nodes[(int(b[3])+i*int(b[1]/32))%len(nodes)]
		}
		c.Node = nodes[int(b[3]/16)%len(nodes)]
		x.do(c)
		l = append(l, c)
	}
	return l
}

// run holds the commands that bytes say against the model.
func run(t *testing.T, script []byte) {
	t.Helper()
	same(t, commands(script))
}

// answer is what a command of a kind came to.
type answer struct {
	kind int
	code api.Code
}

func TestScripts(t *testing.T) {
	seen := map[answer]int{}
	for n := range 400 {
		l := commands(sample.Bytes(cmdSize*120 + n))
		same(t, l)
		x := &model{}
		for _, c := range l {
			_, code := x.do(c)
			seen[answer{c.Kind, code}]++
		}
	}
	// So that the scripts come to each answer of each kind, and not to a few alone.
	for kind, codes := range [][]api.Code{
		{api.ErrArg},
		{0, api.ErrArg},
		{0, api.ErrNone, api.ErrStale, api.ErrSealed},
		{0, api.ErrNone, api.ErrStale, api.ErrThere},
		{0, api.ErrNone, api.ErrStale, api.ErrArg, api.ErrThere},
		{api.ErrArg},
	} {
		for _, code := range codes {
			if n := seen[answer{kind, code}]; n < 100 {
				t.Errorf("commands of the kind %d with the code %d: %d", kind, code, n)
			}
		}
	}
}

// TestCommandsInEachOrder holds all rows of a few commands against the model.
func TestCommandsInEachOrder(t *testing.T) {
	var more func(l []dirs.Cmd)
	more = func(l []dirs.Cmd) {
		same(t, l)
		if len(l) == 6 {
			return
		}
		epoch := len(l) - 1
		for _, c := range []dirs.Cmd{sealing(1, epoch), opening(1, epoch), replacing(1, epoch, 0, 4), replacing(1, epoch-1, 1, 1), making(1, 2, 3), sealing(2, 1)} {
			more(append(slices.Clone(l), c))
		}
	}
	more([]dirs.Cmd{making(1, 2, 3), making(4, 5, 6)})
}

func FuzzDirs(f *testing.F) {
	f.Add([]byte{0, 0, 0, 1, 1, 1, 0, 0, 2, 1, 0, 0, 3, 1, 3, 90})
	f.Add(sample.Bytes(cmdSize * 40))
	f.Fuzz(run)
}
