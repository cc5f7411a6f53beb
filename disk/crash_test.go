package disk_test

import (
	"math"
	"runtime"
	"slices"
	"strconv"
	"strings"
	"testing"

	"corncrib/api"
	"corncrib/disk"
)

// deedNames are the deeds, in an order in which a disk of lasting a and b does
// them all.
var deedNames = []string{"Create", "Append", "Sync", "SyncNames", "Rename", "Cut", "Remove"}

// deed does a deed that can be done, but Remove only behind Rename.
func deed(d *disk.Disk, name string) error {
	switch name {
	case "Create":
		return d.Create("c")
	case "Append":
		return d.Append("a", nil)
	case "Sync":
		return d.Sync("a")
	case "SyncNames":
		return d.SyncNames()
	case "Rename":
		return d.Rename("b", "d")
	case "Cut":
		return d.Cut("a", 5)
	}
	return d.Remove("d")
}

// noDeeds does what is no deed, and deeds that are told with an error.
func noDeeds(t *testing.T, d *disk.Disk) {
	t.Helper()
	has(t, "P7.3: what is no deed", d, "a", "maize", "b", "rye")
	is(t, "P7.3: Spoil is no deed", d.Spoil("a", 0, 255), 0)
	is(t, "P7.3: Spoil is no deed", d.Spoil("a", 0, 255), 0)
	_, size := d.Size("x")
	_, read := d.Read("a", 0, 6)
	for i, e := range []error{
		size, read, d.Create("A"), d.Create("a"), d.Append("x", nil), d.Append("a", make([]byte, 1<<24)), d.Append("a", make([]byte, 100)),
		d.Sync("x"), d.Rename("x", "y"), d.Rename("a", ""), d.Remove("x"), d.Cut("x", 0), d.Cut("a", 6), d.Spoil("a", 5, 1), d.Arm(-1),
	} {
		if e == nil || d.Down() {
			t.Errorf("P7.3: call %d of those that aren't done: %v; down: %v", i, e, d.Down())
		}
	}
}

// allDown asks that each call of a disk that is down does nothing, whatever it
// is given.
func allDown(t *testing.T, why string, d *disk.Disk) {
	t.Helper()
	names, used := d.Names(), d.Used()
	if !d.Down() {
		t.Errorf("%s: it isn't down", why)
	}
	for _, name := range []string{"a", "b", "new", "", "A"} {
		_, size := d.Size(name)
		for _, n := range []int{-1, 0, 1, math.MaxInt} {
			b, read := d.Read(name, 0, n)
			if len(b) != 0 {
				t.Errorf("%s: Read tells %q", why, b)
			}
			for call, e := range map[string]error{
				"Create": d.Create(name), "Append": d.Append(name, []byte("x")), "Read": read, "Size": size, "Sync": d.Sync(name), "SyncNames": d.SyncNames(),
				"Rename": d.Rename(name, "c"), "Remove": d.Remove(name), "Cut": d.Cut(name, n), "Arm": d.Arm(n), "Spoil": d.Spoil(name, n, 1),
			} {
				is(t, why+": "+call+" when it is down", e, api.ErrDown)
			}
		}
	}
	if !d.Down() || d.Used() != used || !slices.Equal(d.Names(), names) {
		t.Errorf("%s: %q, %d; want %q, %d", why, d.Names(), d.Used(), names, used)
	}
}

func TestArm(t *testing.T) {
	for _, n := range []int{-1, -2, math.MinInt32, math.MinInt} {
		d := lasting(t, 8, "a", "maize", "b", "rye")
		is(t, "P7.3: Arm("+strconv.Itoa(n)+")", d.Arm(n), api.ErrArg)
		if d.Down() {
			t.Errorf("P7.3: Arm(%d): it is down", n)
		}
		for _, name := range deedNames {
			is(t, "P7.3: "+name+" of a disk that isn't armed", deed(d, name), 0)
		}
	}
	for n := range len(deedNames) + 1 {
		d := lasting(t, 8, "a", "maize", "b", "rye")
		is(t, "P7.3: Arm("+strconv.Itoa(n)+")", d.Arm(n), 0)
		for i, name := range deedNames[:n] {
			if d.Down() {
				t.Errorf("P7.3: armed with %d it is down behind %d", n, i)
			}
			is(t, "P7.3: armed with "+strconv.Itoa(n)+", "+name, deed(d, name), 0)
		}
		allDown(t, "P7.3: armed with "+strconv.Itoa(n), d)
		crashed(t, d, math.MaxInt)
		is(t, "P7.3: a deed behind the crash", d.Create("new"), 0)
	}
}

func TestEachDeedCounts(t *testing.T) {
	for _, name := range deedNames {
		d := lasting(t, 8, "a", "maize", "d", "rye")
		must(t, d.Create("b"), d.Arm(1))
		if name == "Rename" {
			must(t, d.Arm(2), d.Remove("d"))
		}
		is(t, "P7.3: armed with 1, "+name, deed(d, name), 0)
		allDown(t, "P7.3: armed with 1, behind "+name, d)
	}
	// A deed counts also where it changes nothing.
	for i, do := range []func(d *disk.Disk) error{
		func(d *disk.Disk) error { return d.Rename("a", "a") },
		func(d *disk.Disk) error { return d.Append("a", nil) },
		func(d *disk.Disk) error { return d.Cut("a", 5) },
		func(d *disk.Disk) error { return d.Sync("a") },
		func(d *disk.Disk) error { return d.SyncNames() },
	} {
		d := lasting(t, 8, "a", "maize")
		must(t, d.Arm(1), do(d))
		allDown(t, "P7.3: armed with 1, behind what changes nothing, "+strconv.Itoa(i), d)
	}
}

func TestWhatIsNoDeed(t *testing.T) {
	d := lasting(t, 8, "a", "maize", "b", "rye")
	noDeeds(t, d)
	must(t, d.Arm(2))
	noDeeds(t, d)
	must(t, d.Sync("a"))
	noDeeds(t, d)
	must(t, d.Sync("b"))
	allDown(t, "P7.3: behind two deeds", d)
	d = with(t, 8)
	must(t, d.Arm(1))
	for i := range 64 {
		must(t, d.Arm(2), d.Create("f"+strconv.Itoa(i)))
	}
	is(t, "P7.3: Create of the 65th file", d.Create("more"), api.ErrFull)
	is(t, "P7.3: Create of the 65th file isn't done", d.Sync("f1"), 0)
	allDown(t, "P7.3: behind a Sync", d)
}

func TestArmAgain(t *testing.T) {
	d := lasting(t, 8, "a", "maize", "b", "rye")
	// The last number holds.
	must(t, d.Arm(1), d.Arm(3), d.Sync("a"), d.Sync("a"), d.Arm(2), d.Sync("a"))
	is(t, "P7.3: Arm(-1) of an armed disk", d.Arm(-1), api.ErrArg)
	must(t, d.Sync("a"))
	allDown(t, "P7.3: armed again", d)
	crashed(t, d, 0)
	must(t, d.Arm(math.MaxInt))
	for range 1000 {
		must(t, d.Sync("a"))
	}
	must(t, d.Arm(0))
	allDown(t, "P7.3: armed with 0", d)
	// A crash takes it away, of one that isn't down yet, too.
	crashed(t, d, 0)
	must(t, d.Arm(1))
	crashed(t, d, 0)
	must(t, d.Sync("a"), d.Sync("a"), d.Sync("a"))
	has(t, "P7.3: a crash of an armed disk", d, "a", "maize", "b", "rye")
}

func TestWhatIsDoneIsDoneAheadOfTheEnd(t *testing.T) {
	d := lasting(t, plenty, "a", "maize")
	must(t, d.Arm(2), d.Append("a", []byte("!")), d.Sync("a"))
	is(t, "P7.3: Append behind the end", d.Append("a", []byte("?")), api.ErrDown)
	crashed(t, d, 0)
	has(t, "P7.3: armed behind the sync", d, "a", "maize!")
	must(t, d.Arm(1), d.Append("a", []byte("?")))
	is(t, "P7.3: Sync behind the end", d.Sync("a"), api.ErrDown)
	crashed(t, d, 0)
	has(t, "P7.3: armed ahead of the sync", d, "a", "maize!")
}

// Of the deeds of names each crash leaves the first ones.
func TestCrashPicksNames(t *testing.T) {
	behind := [][]string{
		{"a", "maize", "b", "rye"},
		{"a", "maize", "b", "rye", "c", ""},
		{"a", "maize", "b", "rye", "d", ""},
		{"a", "maize", "d", "rye"},
		{"d", "maize"},
		{"d", "maize"}, // renamed to itself: a deed all the same
		{},
		{"a", ""},
	}
	for n := -2; n < len(behind)+3; n++ {
		d := lasting(t, plenty, "a", "maize", "b", "rye")
		must(t, d.Create("c"), d.Rename("c", "d"), d.Rename("b", "d"), d.Rename("a", "d"), d.Rename("d", "d"), d.Remove("d"), d.Create("a"))
		// What isn't done is no deed.
		is(t, "P7.2: Rename to no name", d.Rename("a", "A"), api.ErrArg)
		is(t, "P7.1: Create of what is there", d.Create("a"), api.ErrThere)
		is(t, "P7.2: Remove of what isn't there", d.Remove("b"), api.ErrNone)
		crashed(t, d, n)
		want := behind[min(max(n, 0), len(behind)-1)]
		has(t, "P7.3: a crash that picks "+strconv.Itoa(n)+" deeds", d, want...)
		// They last now: the next crash takes none of them back, and does none.
		crashed(t, d, math.MaxInt)
		crashed(t, d, 0)
		has(t, "P7.3: crashes behind one that picks "+strconv.Itoa(n), d, want...)
	}
	for _, n := range []int{math.MinInt, math.MaxInt} {
		d := lasting(t, plenty, "a", "maize")
		must(t, d.Rename("a", "b"))
		crashed(t, d, n)
		has(t, "P7.3: a crash that picks deeds at an end of numbers", d, map[bool]string{true: "b", false: "a"}[n > 0], "maize")
	}
}

func TestCrashPicksBytes(t *testing.T) {
	for lasts := range 6 {
		for keep := -2; keep < 9; keep++ {
			for _, turn := range []byte{0, 1, 0x80, 255} {
				d := with(t, plenty, "a", "maize"[:lasts])
				must(t, d.Sync("a"), d.SyncNames(), d.Append("a", []byte("maize"[lasts:])))
				crashed(t, d, 0, disk.Pick{Keep: keep, Turn: turn})
				kept := min(max(keep, 0), 5-lasts)
				want := []byte("maize")[:lasts+kept]
				if kept > 0 {
					want[len(want)-1] ^= turn
				}
				why := "P7.3: of 5 bytes " + strconv.Itoa(lasts) + " last, Keep is " + strconv.Itoa(keep)
				has(t, why, d, "a", string(want))
				// They last now, as they are.
				must(t, d.Append("a", []byte("!")))
				crashed(t, d, 0)
				crashed(t, d, 0, disk.Pick{Keep: 9, Turn: 255})
				has(t, why+", and two crashes", d, "a", string(want))
			}
		}
	}
	for _, keep := range []int{math.MinInt, math.MinInt32, math.MaxInt32, math.MaxInt} {
		d := lasting(t, plenty, "a", "maize")
		must(t, d.Append("a", []byte("ab")))
		crashed(t, d, 0, disk.Pick{Keep: keep, Turn: 3})
		has(t, "P7.3: Keep at an end of numbers", d, "a", map[bool]string{true: "maizeaa", false: "maize"}[keep > 0])
	}
}

// keeps tells picks that keep so many bytes each.
func keeps(all ...int) []disk.Pick {
	var picks []disk.Pick
	for _, keep := range all {
		picks = append(picks, disk.Pick{Keep: keep})
	}
	return picks
}

// Files have their numbers from their creation on, whatever they are called.
func TestCrashPicksFilesByTheirNumbers(t *testing.T) {
	const text = "123456"
	files := func() *disk.Disk { return with(t, plenty, "c", text, "a", text, "b", text) }
	for _, x := range []struct {
		why   string
		do    func(d *disk.Disk) error
		picks []disk.Pick
		want  []string
	}{
		{"no picks", nil, nil, []string{"c", "", "a", "", "b", ""}},
		{"one pick", nil, keeps(1), []string{"c", "1", "a", "", "b", ""}},
		{"as many as files", nil, keeps(1, 2, 3), []string{"c", "1", "a", "12", "b", "123"}},
		{"more than files", nil, keeps(1, 2, 3, 4, 5), []string{"c", "1", "a", "12", "b", "123"}},
		{"renamed", func(d *disk.Disk) error { return d.Rename("c", "z") }, keeps(1, 2, 3), []string{"z", "1", "a", "12", "b", "123"}},
		{"renamed over", func(d *disk.Disk) error { return d.Rename("b", "c") }, keeps(1, 2, 3), []string{"a", "12", "c", "123"}},
		{"removed", func(d *disk.Disk) error { return d.Remove("c") }, keeps(1, 2, 3), []string{"a", "12", "b", "123"}},
	} {
		d := files()
		if x.do != nil {
			must(t, x.do(d))
		}
		crashed(t, d, 9, x.picks...)
		has(t, "P7.3: picks of files, "+x.why, d, x.want...)
	}
}

func TestCrashPicksOfANameThatIsAnotherFilesNow(t *testing.T) {
	for n, want := range [][]string{
		{"a", "oats12", "b", "ab"},
		{"b", "ab"},
		{"a", "wxyz", "b", "ab"},
		{"a", "ab"},
		{},
		{"a", "00000"},
	} {
		d := with(t, plenty, "a", "oats", "b", "")
		must(t, d.Sync("a"), d.SyncNames(), d.Append("a", []byte("12345")), d.Append("b", []byte("abcdef")))
		must(t, d.Remove("a"), d.Create("a"), d.Append("a", []byte("wxyz")), d.Sync("a"), d.Append("a", []byte("!")), d.Rename("b", "a"))
		must(t, d.Remove("a"), d.Create("a"), d.Append("a", []byte("000000000")))
		has(t, "P7.3: files of one name", d, "a", "000000000")
		crashed(t, d, n, keeps(2, 2, 0, 5)...)
		has(t, "P7.3: files of one name, behind a crash that picks "+strconv.Itoa(n), d, want...)
		// The next file's number follows that of the last one that was created.
		must(t, d.Create("z"), d.Append("z", []byte("987")))
		crashed(t, d, 1, keeps(0, 0, 0, 0, 1, 2)...)
		has(t, "P7.3: a new file behind a crash that picks "+strconv.Itoa(n), d, append(want, "z", "9")...)
	}
}

// What has no name when it crashes may have one again behind it, and its bytes.
func TestWhatIsRenamedOverComesBack(t *testing.T) {
	d := lasting(t, plenty, "a", "maize", "b", "rye")
	must(t, d.Append("b", []byte("!?")), d.Rename("a", "b"), d.Append("b", []byte("...")), d.Sync("b"))
	has(t, "P7.3: ahead of the crash", d, "b", "maize...")
	crashed(t, d, 0, keeps(0, 1)...)
	has(t, "P7.3: behind the crash", d, "a", "maize...", "b", "rye!")
}

func TestSpoil(t *testing.T) {
	d := lasting(t, plenty, "a", "maize", "b", "")
	for _, off := range []int{-1, 5, 6, math.MinInt, math.MaxInt, 1 << 32} {
		is(t, "P7.3: Spoil at "+strconv.Itoa(off), d.Spoil("a", off, 1), api.ErrArg)
	}
	is(t, "P7.3: Spoil of an empty file", d.Spoil("b", 0, 1), api.ErrArg)
	has(t, "P7.3: Spoil with an error", d, "a", "maize", "b", "")
	for off := range 5 {
		for _, bits := range []byte{0, 1, 0x20, 0x80, 255} {
			want := []byte("maize")
			want[off] ^= bits
			is(t, "P7.3: Spoil", d.Spoil("a", off, bits), 0)
			has(t, "P7.3: Spoil at "+strconv.Itoa(off), d, "a", string(want), "b", "")
			is(t, "P7.3: Spoil", d.Spoil("a", off, bits), 0)
			has(t, "P7.3: Spoil at "+strconv.Itoa(off)+" twice", d, "a", "maize", "b", "")
		}
	}
}

func TestSpoilOfWhatLastsAndWhatDoesNot(t *testing.T) {
	begin := func() *disk.Disk {
		d := lasting(t, plenty, "a", "12")
		must(t, d.Append("a", []byte("34")), d.Spoil("a", 1, 1), d.Spoil("a", 2, 1), d.Spoil("a", 3, 3))
		has(t, "P7.3: Spoil", d, "a", "1327")
		return d
	}
	for keep, want := range []string{"13", "130", "1325"} {
		d := begin()
		crashed(t, d, 0, disk.Pick{Keep: keep, Turn: 2})
		has(t, "P7.3: Spoil, and a crash that keeps "+strconv.Itoa(keep), d, "a", want)
	}
	d := begin()
	must(t, d.Sync("a"))
	crashed(t, d, 0)
	has(t, "P7.3: Spoil, Sync, and a crash", d, "a", "1327")
	must(t, d.Spoil("a", 3, 3))
	crashed(t, d, 0, disk.Pick{Keep: 9, Turn: 255})
	has(t, "P7.3: Spoil of what lasts isn't taken back", d, "a", "1324")
}

func TestCrashOfANewDisk(t *testing.T) {
	d := made(t, plenty)
	crashed(t, d, 5, keeps(1, 2)...)
	crashed(t, d, -5)
	has(t, "P7.3: a crash of a new disk", d)
	is(t, "P7.3: Create behind it", d.Create("a"), 0)
}

// What was synced, under synced names, is there behind any crash.
func TestItFollows(t *testing.T) {
	for names := -1; names < 8; names++ {
		for keep := -1; keep < 6; keep++ {
			d := lasting(t, plenty, "a", "maize", "b", "rye", "c", "oats")
			must(t, d.Append("a", []byte(" 1")), d.Sync("a"), d.Append("a", []byte(" 2")), d.Rename("b", "d"), d.SyncNames())
			must(t, d.Append("d", []byte("!!!!")), d.Create("e"), d.Append("e", []byte("....")), d.Sync("e"), d.Rename("c", "f"), d.Create("c"), d.Remove("f"))
			must(t, d.Arm(1), d.Cut("d", 5))
			picks := make([]disk.Pick, 7)
			for i := range picks {
				picks[i] = disk.Pick{Keep: keep, Turn: 255}
			}
			must(t, d.Crash(disk.Picks{Names: names, Files: picks}))
			for name, want := range map[string]string{"a": "maize 1", "d": "rye!!"} {
				if b, e := d.Read(name, 0, len(want)); string(b) != want || e != nil {
					t.Errorf("P7.4: behind a crash of %d and %d: %s has %q, %v; want %q", names, keep, name, b, e, want)
				}
			}
		}
	}
}

// heap tells how many bytes are kept.
func heap() uint64 {
	runtime.GC()
	var m runtime.MemStats
	runtime.ReadMemStats(&m)
	return m.HeapAlloc
}

// Once a deed of names can't be taken back any more the files that it took
// away aren't kept.
func TestALongLife(t *testing.T) {
	d := made(t, 1<<20)
	b := make([]byte, 1<<18)
	before := heap()
	for i := range 600 {
		must(t, d.Create("a"), d.Append("a", b), d.Sync("a"), d.Rename("a", "b"))
		if i%3 == 0 {
			must(t, d.Crash(disk.Picks{Names: 2}))
		} else {
			must(t, d.SyncNames())
		}
		must(t, d.Remove("b"), d.SyncNames())
	}
	if more := int64(heap()) - int64(before); more > 1<<24 {
		t.Errorf("P7.2: %d bytes are kept of files that are gone", more)
	}
	has(t, "P7.2: a long life", d)
}

// A name may be a piece of a text that is far longer.
func TestALongTextIsNotKept(t *testing.T) {
	d := made(t, plenty)
	before := heap()
	for i := range 32 {
		text := strings.Repeat(string(rune('a'+i%26)), 1<<20)
		must(t, d.Create(text[:i+1]), d.Rename(text[:i+1], text[:32]), d.Remove(text[1:33]))
	}
	if more := int64(heap()) - int64(before); more > 1<<22 {
		t.Errorf("P7.2: %d bytes are kept of names", more)
	}
	has(t, "P7.2: names that are pieces of long texts", d)
}

func TestNoDisk(t *testing.T) {
	var d *disk.Disk
	b, read := d.Read("a", 0, 0)
	n, size := d.Size("a")
	for call, e := range map[string]error{
		"Create": d.Create("a"), "Append": d.Append("a", nil), "Read": read, "Size": size, "Sync": d.Sync("a"), "SyncNames": d.SyncNames(),
		"Rename": d.Rename("a", "b"), "Remove": d.Remove("a"), "Cut": d.Cut("a", 0), "Arm": d.Arm(1), "Crash": d.Crash(disk.Picks{Names: 1}),
		"Spoil": d.Spoil("a", 0, 1), "Create of no name": d.Create(""), "Arm of -1": d.Arm(-1), "Rename of no names": d.Rename("", ""),
	} {
		is(t, "P7.1: "+call+" of no disk", e, api.ErrNil)
	}
	if len(b) != 0 || n != 0 || len(d.Names()) != 0 || d.Used() != 0 || d.Down() {
		t.Errorf("P7.1: of no disk: %q, %d, %q, %d, %v", b, n, d.Names(), d.Used(), d.Down())
	}
}

// A disk that nobody made is as one of no bytes.
func TestADiskThatWasNotMade(t *testing.T) {
	d := new(disk.Disk)
	has(t, "R1: a disk that wasn't made", d)
	must(t, d.SyncNames(), d.Crash(disk.Picks{Names: 3, Files: keeps(1)}), d.Create("a"), d.Append("a", nil), d.Rename("a", "b"))
	is(t, "R1: Append to a disk that wasn't made", d.Append("b", []byte{1}), api.ErrFull)
	crashed(t, d, 1, keeps(1)...)
	has(t, "R1: a disk that wasn't made", d, "a", "")
}
