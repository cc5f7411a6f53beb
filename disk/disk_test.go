package disk_test

import (
	"bytes"
	"maps"
	"math"
	"slices"
	"strconv"
	"strings"
	"testing"

	"corncrib/api"
	"corncrib/disk"
	"corncrib/sample"
)

const plenty = 1 << 20 // a capacity that is of no weight

// is asks that e is an error of this code and of no other one; 0 is no error.
func is(t *testing.T, why string, e error, code api.Code) {
	t.Helper()
	if !sample.Is(e, code) {
		t.Errorf("%s: %v; want code %d", why, e, code)
	}
}

// must asks that nothing is wrong with what a test begins with.
func must(t *testing.T, errs ...error) {
	t.Helper()
	for i, e := range errs {
		if e != nil {
			t.Fatalf("call %d: %v", i, e)
		}
	}
}

// made tells a new disk.
func made(t *testing.T, capacity int) *disk.Disk {
	t.Helper()
	d, e := disk.New(capacity)
	if e != nil || d == nil {
		t.Fatalf("P7.1: New(%d): %v, %v", capacity, d, e)
	}
	return d
}

// with tells a disk on which files were created, one behind the other, as the
// pairs of name and bytes tell; nothing is synced.
func with(t *testing.T, capacity int, pairs ...string) *disk.Disk {
	t.Helper()
	d := made(t, capacity)
	for i := 0; i < len(pairs); i += 2 {
		must(t, d.Create(pairs[i]), d.Append(pairs[i], []byte(pairs[i+1])))
	}
	return d
}

// lasting tells a disk as with does, of which all lasts.
func lasting(t *testing.T, capacity int, pairs ...string) *disk.Disk {
	t.Helper()
	d := with(t, capacity, pairs...)
	for i := 0; i < len(pairs); i += 2 {
		must(t, d.Sync(pairs[i]))
	}
	must(t, d.SyncNames())
	return d
}

// has asks that a disk that isn't down has just the files that the pairs tell.
func has(t *testing.T, why string, d *disk.Disk, pairs ...string) {
	t.Helper()
	want := map[string]string{}
	used := 0
	for i := 0; i < len(pairs); i += 2 {
		want[pairs[i]] = pairs[i+1]
		used += len(pairs[i+1])
	}
	if names := d.Names(); !slices.Equal(names, slices.Sorted(maps.Keys(want))) {
		t.Errorf("%s: names %q; want %q", why, names, want)
	}
	if n := d.Used(); n != used {
		t.Errorf("%s: %d bytes are used; want %d", why, n, used)
	}
	for name, text := range want {
		if n, e := d.Size(name); n != len(text) || e != nil {
			t.Errorf("%s: size of %s: %d, %v; want %d", why, name, n, e, len(text))
		}
		if b, e := d.Read(name, 0, len(text)); string(b) != text || e != nil {
			t.Errorf("%s: %s has %q, %v; want %q", why, name, b, e, text)
		}
	}
}

// crashed crashes a disk by no picks, but so many deeds of names.
func crashed(t *testing.T, d *disk.Disk, names int, files ...disk.Pick) {
	t.Helper()
	is(t, "P7.3: Crash", d.Crash(disk.Picks{Names: names, Files: files}), 0)
	if d.Down() {
		t.Error("P7.3: it is down behind a crash")
	}
}

func TestExample(t *testing.T) {
	d := made(t, 100)
	must(t, d.Create("a"), d.Append("a", []byte("corn")))
	crashed(t, d, 0)
	has(t, "P7.3: create a, append, crash", d)
}

func TestNew(t *testing.T) {
	for _, n := range []int{-1, math.MinInt, math.MinInt32, 1<<30 + 1, 1 << 31, 1 << 32, math.MaxInt} {
		d, e := disk.New(n)
		is(t, "P7.1: New("+strconv.Itoa(n)+")", e, api.ErrArg)
		if d != nil {
			t.Errorf("P7.1: New(%d): a disk beside an error", n)
		}
	}
	for _, n := range []int{0, 1, 1<<30 - 1, 1 << 30} {
		d := made(t, n)
		has(t, "P7.1: New", d)
		if d.Down() {
			t.Errorf("P7.1: New(%d): it is down", n)
		}
		must(t, d.Create("a"), d.Append("a", nil))
		if other := made(t, n); len(other.Names()) != 0 {
			t.Error("P7.1: New: two disks have the same files")
		}
	}
}

// names are such as may be and such as may not.
func names() (good, bad []string) {
	const all = "abcdefghijklmnopqrstuvwxyz0123456789."
	for c := range 256 {
		for _, name := range []string{string([]byte{byte(c)}), "v" + string([]byte{byte(c)}) + "1", "c3." + string([]byte{byte(c)}), strings.Repeat("m", 31) + string([]byte{byte(c)})} {
			if strings.IndexByte(all, byte(c)) >= 0 {
				good = append(good, name)
			} else {
				bad = append(bad, name)
			}
		}
	}
	good = append(good, "..", "v65535.2147483647", strings.Repeat("z", 32), strings.Repeat(".", 32), all[:32], all[5:])
	bad = append(bad, "", strings.Repeat("z", 33), all, strings.Repeat("a", 1<<16), "a ", " a", "a\x00", "ä", "a/b", "A", "v3_1", "v-1", "\xff\xfe")
	return good, bad
}

func TestNamesThatMayBe(t *testing.T) {
	good, bad := names()
	for _, name := range good {
		d := made(t, plenty)
		is(t, "P7.1: Create("+name+")", d.Create(name), 0)
		has(t, "P7.1: Create("+name+")", d, name, "")
		must(t, d.Remove(name), d.Create("from"))
		is(t, "P7.2: Rename to "+name, d.Rename("from", name), 0)
		has(t, "P7.2: Rename to "+name, d, name, "")
	}
	d := lasting(t, plenty, "from", "corn")
	for _, name := range bad {
		text := strconv.Quote(name[:min(len(name), 40)])
		is(t, "P7.1: Create("+text+")", d.Create(name), api.ErrArg)
		is(t, "P7.2: Rename to "+text, d.Rename("from", name), api.ErrArg)
		is(t, "P7.2: Rename from "+text, d.Rename(name, "a"), api.ErrNone)
	}
	has(t, "P7.1: with names that may not be", d, "from", "corn")
}

func TestCreate(t *testing.T) {
	d := with(t, plenty, "b", "", "a", "maize")
	has(t, "P7.1: Create", d, "a", "maize", "b", "")
	is(t, "P7.1: Create of what is there", d.Create("a"), api.ErrThere)
	is(t, "P7.1: Create of what is there", d.Create("b"), api.ErrThere)
	has(t, "P7.1: Create of what is there", d, "a", "maize", "b", "")
	must(t, d.Remove("a"))
	is(t, "P7.1: Create of what was removed", d.Create("a"), 0)
	has(t, "P7.1: Create of what was removed", d, "a", "", "b", "")
	must(t, d.Rename("a", "c"))
	is(t, "P7.1: Create of what was renamed", d.Create("a"), 0)
	is(t, "P7.1: Create of what it is called now", d.Create("c"), api.ErrThere)
	has(t, "P7.1: Create of what was renamed", d, "a", "", "b", "", "c", "")
	is(t, "P7.1: Create on a disk of no bytes", made(t, 0).Create("a"), 0)
}

func TestFilesUpToTheirMost(t *testing.T) {
	d := made(t, plenty)
	var all []string
	for i := range 64 {
		name := "f" + strconv.Itoa(i)
		is(t, "P7.1: Create of "+name, d.Create(name), 0)
		all = append(all, name, "")
	}
	is(t, "P7.1: Create of the 65th file", d.Create("more"), api.ErrFull)
	is(t, "P7.1: Create of what is there, of 64", d.Create("f63"), api.ErrThere)
	is(t, "P7.1: Create of no name, of 64", d.Create("F"), api.ErrArg)
	has(t, "P7.1: 64 files", d, all...)
	// A file has another name, but isn't one more.
	is(t, "P7.2: Rename, of 64", d.Rename("f63", "g"), 0)
	is(t, "P7.2: Rename back", d.Rename("g", "f63"), 0)
	has(t, "P7.2: Rename, of 64", d, all...)
	must(t, d.Rename("f63", "f62"))
	is(t, "P7.1: Create behind a Rename over another one", d.Create("f63"), 0)
	is(t, "P7.1: Create of the 65th file", d.Create("more"), api.ErrFull)
	must(t, d.Remove("f0"))
	is(t, "P7.1: Create behind a Remove", d.Create("f0"), 0)
	has(t, "P7.1: 64 files", d, all...)
	// What was removed counts again once a crash brings it back.
	must(t, d.SyncNames(), d.Remove("f0"))
	crashed(t, d, 0)
	is(t, "P7.1: Create behind a crash", d.Create("more"), api.ErrFull)
	has(t, "P7.1: 64 files behind a crash", d, all...)
}

func TestNamesAreInOrder(t *testing.T) {
	d := made(t, plenty)
	for _, name := range []string{"b", "aa", "0", ".", "a", "z9", "10", "9", "a.", "a0", "zz"} {
		must(t, d.Create(name))
	}
	want := []string{".", "0", "10", "9", "a", "a.", "a0", "aa", "b", "z9", "zz"}
	if got := d.Names(); !slices.Equal(got, want) {
		t.Errorf("P7.1: Names: %q; want %q", got, want)
	}
	must(t, d.Rename("b", "00"), d.Remove("zz"), d.Rename(".", "a"))
	want = []string{"0", "00", "10", "9", "a", "a.", "a0", "aa", "z9"}
	if got := d.Names(); !slices.Equal(got, want) {
		t.Errorf("P7.1: Names: %q; want %q", got, want)
	}
}

func TestAppend(t *testing.T) {
	d := with(t, 12, "a", "", "b", "")
	is(t, "P7.1: Append of nothing", d.Append("a", nil), 0)
	has(t, "P7.1: Append of nothing", d, "a", "", "b", "")
	is(t, "P7.1: Append", d.Append("a", []byte("cor")), 0)
	is(t, "P7.1: Append", d.Append("b", []byte{0}), 0)
	is(t, "P7.1: Append", d.Append("a", []byte("n")), 0)
	is(t, "P7.1: Append of nothing", d.Append("a", []byte{}), 0)
	has(t, "P7.1: Append", d, "a", "corn", "b", "\x00")
	is(t, "P7.1: Append to what isn't there", d.Append("c", []byte("x")), api.ErrNone)
	is(t, "P7.1: Append to no name", d.Append("", nil), api.ErrNone)
	// All files together count, not the one alone.
	is(t, "P7.1: Append of one byte more than there is room", d.Append("b", []byte("12345678")), api.ErrFull)
	has(t, "P7.1: Append of one byte too many", d, "a", "corn", "b", "\x00")
	is(t, "P7.1: Append up to the capacity", d.Append("b", []byte("1234567")), 0)
	is(t, "P7.1: Append of nothing to what is full", d.Append("a", nil), 0)
	is(t, "P7.1: Append of a byte to what is full", d.Append("a", []byte("x")), api.ErrFull)
	has(t, "P7.1: Append to what is full", d, "a", "corn", "b", "\x001234567")
	must(t, d.Cut("a", 3))
	is(t, "P7.1: Append behind a Cut", d.Append("b", []byte("8")), 0)
	must(t, d.Remove("b"))
	is(t, "P7.1: Append behind a Remove", d.Append("a", []byte("n in a bin")), api.ErrFull)
	is(t, "P7.1: Append behind a Remove", d.Append("a", []byte("n a heap.")), 0)
	has(t, "P7.1: Append behind a Remove", d, "a", "corn a heap.")
	d = with(t, 0, "a", "")
	is(t, "P7.1: Append on a disk of no bytes", d.Append("a", []byte{1}), api.ErrFull)
}

func TestAppendUpToTheLongestFile(t *testing.T) {
	d := with(t, 1<<24+7, "a", "", "b", "")
	long := make([]byte, 1<<24+1)
	long[1<<24-1] = 7
	is(t, "P7.1: Append of 2^24+1 bytes", d.Append("a", long), api.ErrLong)
	has(t, "P7.1: Append of 2^24+1 bytes", d, "a", "", "b", "")
	is(t, "P7.1: Append of 2^24-1 bytes", d.Append("a", long[2:]), 0)
	is(t, "P7.1: Append of two bytes", d.Append("a", long[:2]), api.ErrLong)
	is(t, "P7.1: Append of the last byte", d.Append("a", []byte{9}), 0)
	is(t, "P7.1: Append of nothing", d.Append("a", nil), 0)
	is(t, "P7.1: Append of a byte more", d.Append("a", []byte{9}), api.ErrLong)
	if b, e := d.Read("a", 1<<24-3, 3); !bytes.Equal(b, []byte{7, 0, 9}) || e != nil {
		t.Errorf("P7.1: the last bytes of 2^24: %v, %v", b, e)
	}
	// The file's limit is looked at ahead of the disk's.
	is(t, "P7.1: Append of too many and too much", d.Append("b", long), api.ErrLong)
	is(t, "P7.1: Append of too much", d.Append("b", long[:8]), api.ErrFull)
	is(t, "P7.1: Append to what isn't there", d.Append("c", long), api.ErrNone)
	is(t, "P7.1: Append up to the capacity", d.Append("b", long[:7]), 0)
	if n := d.Used(); n != 1<<24+7 {
		t.Errorf("P7.1: Used: %d", n)
	}
	is(t, "P7.1: Append of 2^24+1 bytes to a disk of 1", with(t, 1, "a", "").Append("a", long), api.ErrLong)
	is(t, "P7.1: Append of 2^24 bytes to a disk of 1", with(t, 1, "a", "").Append("a", long[:1<<24]), api.ErrFull)
}

// What a crash brings back may be more than the capacity is.
func TestAppendToADiskThatHasMoreThanItMay(t *testing.T) {
	d := lasting(t, 8, "a", "12345", "b", "678")
	must(t, d.Remove("a"), d.Append("b", []byte("90123")), d.Sync("b"))
	crashed(t, d, 0)
	has(t, "P7.3: more than the capacity", d, "a", "12345", "b", "67890123")
	is(t, "P7.1: Append of nothing to more than the capacity", d.Append("a", nil), api.ErrFull)
	is(t, "P7.1: Append to more than the capacity", d.Append("a", []byte{1}), api.ErrFull)
	must(t, d.Cut("b", 3))
	is(t, "P7.1: Append of nothing to what is full", d.Append("a", nil), 0)
}

func TestRead(t *testing.T) {
	const text = "maize"
	d := with(t, plenty, "a", text, "b", "wheat and rye")
	for off := -2; off <= len(text)+2; off++ {
		for n := -2; n <= len(text)+2; n++ {
			want, code := "", api.Code(0)
			switch {
			case off < 0 || n < 0:
				code = api.ErrArg
			case off+n > len(text):
				code = api.ErrShort
			default:
				want = text[off : off+n]
			}
			b, e := d.Read("a", off, n)
			why := "P7.1: Read from " + strconv.Itoa(off) + " of " + strconv.Itoa(n)
			is(t, why, e, code)
			if string(b) != want {
				t.Errorf("%s: %q; want %q", why, b, want)
			}
		}
	}
}

func TestReadOfNumbersAtTheirEnds(t *testing.T) {
	d := with(t, plenty, "a", "maize", "b", "")
	ends := []int{math.MinInt, math.MinInt + 5, math.MinInt32, -1, 0, 5, 6, math.MaxInt32, 1 << 32, math.MaxInt - 5, math.MaxInt}
	for _, off := range ends {
		for _, n := range ends {
			code := api.Code(0)
			switch {
			case off < 0 || n < 0:
				code = api.ErrArg
			case off > 5 || n > 5 || off+n > 5:
				code = api.ErrShort
			}
			why := "P7.1: Read from " + strconv.Itoa(off) + " of " + strconv.Itoa(n)
			b, e := d.Read("a", off, n)
			is(t, why, e, code)
			if code != 0 && len(b) != 0 {
				t.Errorf("%s: %q beside an error", why, b)
			}
			_, e = d.Read("c", off, n)
			is(t, why+", of what isn't there", e, api.ErrNone)
		}
	}
	if b, e := d.Read("b", 0, 0); len(b) != 0 || e != nil {
		t.Errorf("P7.1: Read of nothing of an empty file: %q, %v", b, e)
	}
	_, e := d.Read("b", 1, 0)
	is(t, "P7.1: Read behind an empty file's end", e, api.ErrShort)
}

func TestSizeAndUsed(t *testing.T) {
	d := with(t, plenty, "a", "maize", "b", "", "c", "rye")
	has(t, "P7.1: Size and Used", d, "a", "maize", "b", "", "c", "rye")
	for _, name := range []string{"", "d", "A", strings.Repeat("a", 33), "a\x00"} {
		n, e := d.Size(name)
		is(t, "P7.1: Size of "+strconv.Quote(name), e, api.ErrNone)
		if n != 0 {
			t.Errorf("P7.1: Size of %q: %d beside an error", name, n)
		}
	}
}

func TestRename(t *testing.T) {
	d := with(t, plenty, "a", "maize", "b", "rye", "c", "oats")
	is(t, "P7.2: Rename", d.Rename("a", "d"), 0)
	has(t, "P7.2: Rename", d, "b", "rye", "c", "oats", "d", "maize")
	is(t, "P7.2: Rename of what was renamed", d.Rename("a", "e"), api.ErrNone)
	is(t, "P7.2: Rename over another one", d.Rename("d", "b"), 0)
	has(t, "P7.2: Rename over another one", d, "b", "maize", "c", "oats")
	is(t, "P7.2: Rename to itself", d.Rename("b", "b"), 0)
	has(t, "P7.2: Rename to itself", d, "b", "maize", "c", "oats")
	must(t, d.Append("b", []byte("!")))
	has(t, "P7.2: Append behind a Rename", d, "b", "maize!", "c", "oats")
	// What isn't there comes ahead of a name that can't be.
	is(t, "P7.2: Rename of nothing to no name", d.Rename("a", ""), api.ErrNone)
	is(t, "P7.2: Rename of no name to itself", d.Rename("A", "A"), api.ErrNone)
	is(t, "P7.2: Rename to no name", d.Rename("b", ""), api.ErrArg)
	is(t, "P7.2: Rename to no name", d.Rename("b", strings.Repeat("b", 33)), api.ErrArg)
	is(t, "P7.2: Rename of what isn't there to itself", d.Rename("a", "a"), api.ErrNone)
	has(t, "P7.2: Rename with an error", d, "b", "maize!", "c", "oats")
}

func TestRemove(t *testing.T) {
	d := with(t, plenty, "a", "maize", "b", "rye")
	for _, name := range []string{"", "c", "A", strings.Repeat("a", 33)} {
		is(t, "P7.2: Remove of "+strconv.Quote(name), d.Remove(name), api.ErrNone)
	}
	is(t, "P7.2: Remove", d.Remove("a"), 0)
	has(t, "P7.2: Remove", d, "b", "rye")
	is(t, "P7.2: Remove twice", d.Remove("a"), api.ErrNone)
	is(t, "P7.2: Remove", d.Remove("b"), 0)
	has(t, "P7.2: Remove of all", d)
}

func TestCallsOfWhatIsNotThere(t *testing.T) {
	d := lasting(t, plenty, "a", "maize", "b", "rye")
	must(t, d.Remove("b"))
	for _, name := range []string{"b", "", "c", "a.", "B", strings.Repeat("a", 33)} {
		_, read := d.Read(name, -1, -1)
		_, size := d.Size(name)
		for call, e := range map[string]error{
			"Append": d.Append(name, []byte("x")), "Read": read, "Size": size, "Sync": d.Sync(name), "Rename": d.Rename(name, "d"),
			"Remove": d.Remove(name), "Cut": d.Cut(name, -1), "Spoil": d.Spoil(name, -1, 1),
		} {
			is(t, "P7.2: "+call+" of "+strconv.Quote(name), e, api.ErrNone)
		}
	}
	has(t, "P7.2: calls of what isn't there", d, "a", "maize")
}

func TestSync(t *testing.T) {
	d := made(t, plenty)
	must(t, d.Create("a"), d.Create("b"), d.SyncNames(), d.Append("a", []byte("maize")), d.Append("b", []byte("rye")))
	is(t, "P7.2: Sync", d.Sync("a"), 0)
	must(t, d.Append("a", []byte(" and oats")))
	has(t, "P7.2: Sync", d, "a", "maize and oats", "b", "rye")
	crashed(t, d, 0)
	has(t, "P7.2: Sync of one file", d, "a", "maize", "b", "")
	must(t, d.Append("a", []byte("!")))
	is(t, "P7.2: Sync twice", d.Sync("a"), 0)
	is(t, "P7.2: Sync twice", d.Sync("a"), 0)
	crashed(t, d, 0)
	has(t, "P7.2: Sync again", d, "a", "maize!", "b", "")
	// The bytes last under whatever name the file has.
	must(t, d.Append("a", []byte("?")), d.Sync("a"), d.Append("a", []byte(".")), d.Rename("a", "c"))
	crashed(t, d, 1)
	has(t, "P7.2: Sync ahead of a Rename", d, "c", "maize!?", "b", "")
}

func TestSyncNames(t *testing.T) {
	d := made(t, plenty)
	is(t, "P7.2: SyncNames of nothing", d.SyncNames(), 0)
	must(t, d.Create("a"), d.Append("a", []byte("maize")))
	is(t, "P7.2: SyncNames", d.SyncNames(), 0)
	crashed(t, d, 0)
	// The name lasts, the bytes don't.
	has(t, "P7.2: SyncNames behind Create", d, "a", "")
	must(t, d.Append("a", []byte("maize")), d.Sync("a"), d.Rename("a", "b"))
	is(t, "P7.2: SyncNames", d.SyncNames(), 0)
	crashed(t, d, 0)
	has(t, "P7.2: SyncNames behind Rename", d, "b", "maize")
	must(t, d.Remove("b"))
	is(t, "P7.2: SyncNames", d.SyncNames(), 0)
	is(t, "P7.2: SyncNames twice", d.SyncNames(), 0)
	crashed(t, d, 0)
	has(t, "P7.2: SyncNames behind Remove", d)
	// A name that doesn't last is of no use to bytes that do.
	must(t, d.Create("a"), d.Append("a", []byte("maize")), d.Sync("a"))
	crashed(t, d, 0)
	has(t, "P7.2: Sync without SyncNames", d)
}

func TestCut(t *testing.T) {
	for _, n := range []int{-1, math.MinInt, 6, 7, 1 << 32, math.MaxInt} {
		d := lasting(t, plenty, "a", "maize")
		is(t, "P7.2: Cut to "+strconv.Itoa(n), d.Cut("a", n), api.ErrArg)
		has(t, "P7.2: Cut to "+strconv.Itoa(n), d, "a", "maize")
	}
	for n := range 6 {
		why := "P7.2: Cut to " + strconv.Itoa(n)
		want := "maize"[:n]
		// Whether the bytes lasted ahead of it or not, those that are left do.
		for _, d := range []*disk.Disk{lasting(t, plenty, "a", "maize"), with(t, plenty, "a", "maize")} {
			must(t, d.SyncNames())
			is(t, why, d.Cut("a", n), 0)
			has(t, why, d, "a", want)
			must(t, d.Append("a", []byte("!!")))
			has(t, why+", and Append", d, "a", want+"!!")
			crashed(t, d, 0)
			has(t, why+", and a crash", d, "a", want)
		}
		d := lasting(t, plenty, "a", "maize")
		must(t, d.Cut("a", n))
		crashed(t, d, 0, disk.Pick{Keep: 9, Turn: 255})
		has(t, why+" isn't taken back", d, "a", want)
	}
	d := with(t, plenty, "a", "")
	is(t, "P7.2: Cut of an empty file to 1", d.Cut("a", 1), api.ErrArg)
	is(t, "P7.2: Cut of an empty file to 0", d.Cut("a", 0), 0)
}

func TestWhatIsHandedInIsNotKept(t *testing.T) {
	d := with(t, plenty, "a", "")
	room := append(make([]byte, 0, 64), "maize and rye"...)
	before := bytes.Clone(room[:64])
	must(t, d.Append("a", room[:5]), d.Append("a", []byte("!")), d.Cut("a", 3), d.Append("a", []byte("ze.")), d.Spoil("a", 0, 255), d.Spoil("a", 0, 255))
	if !bytes.Equal(room[:64], before) {
		t.Errorf("R4: Append's bytes were changed: %q", room[:64])
	}
	sample.Spoil(room)
	has(t, "R4: Append's bytes were written over", d, "a", "maize.")
	picks := disk.Picks{Names: 9, Files: []disk.Pick{{Keep: 4, Turn: 1}, {Keep: -1}, {Keep: 1 << 40, Turn: 9}}}
	files := slices.Clone(picks.Files)
	must(t, d.SyncNames(), d.Append("a", []byte("?!")), d.Crash(picks))
	if picks.Names != 9 || !slices.Equal(picks.Files, files) {
		t.Errorf("R4: Crash's picks were changed: %v", picks)
	}
	clear(picks.Files)
	has(t, "R4: Crash's picks were written over", d, "a", "maize.>")
}

func TestWhatIsToldIsTheCallers(t *testing.T) {
	d := lasting(t, plenty, "a", "maize", "b", "rye")
	one, _ := d.Read("a", 0, 5)
	two, _ := d.Read("a", 1, 3)
	sample.Spoil(one)
	if string(two) != "aiz" {
		t.Errorf("R4: two answers of Read share memory: %q", two)
	}
	sample.Spoil(append(two, "over and over"...))
	names := d.Names()
	more := d.Names()
	clear(names[:cap(names)])
	if !slices.Equal(more, []string{"a", "b"}) {
		t.Errorf("R4: two answers of Names share memory: %q", more)
	}
	has(t, "R4: what was told was written over", d, "a", "maize", "b", "rye")
	three, _ := d.Read("a", 0, 5)
	must(t, d.Spoil("a", 0, 255), d.Cut("a", 2), d.Append("a", []byte("xyz")))
	if string(three) != "maize" {
		t.Errorf("R4: what was told is the disk's memory: %q", three)
	}
}
