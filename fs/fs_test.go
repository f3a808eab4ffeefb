package fs

import (
	"math"
	"slices"
	"strconv"
	"strings"
	"testing"

	"scree/api"
)

var wrongNames = []string{"", "A", "Z", "a b", " ", "a/b", "-", "_", "a_b", "a-b", "a\x00", "\x00", "\xff", "ä", "a\n", "`", "{", ":", "/", strings.Repeat("a", 21), strings.Repeat(".", 40), strings.Repeat("9", 100000)}

var rightNames = []string{"a", "z", "0", "9", ".", "..", "a.b", "wal.0", "tab.1099511627776", "cur.tmp", "0a", strings.Repeat("a", 20), strings.Repeat(".", 20)}

// told asks that each call told what is wanted.
func told(t *testing.T, want api.Errno, got ...api.Errno) {
	t.Helper()
	for i, e := range got {
		if e != want {
			t.Errorf("call %d told %d; want %d", i, e, want)
		}
	}
}

func ok(t *testing.T, got ...api.Errno) {
	t.Helper()
	told(t, api.OK, got...)
}

// seen tells the names of a disk with their bytes, in order of List.
func seen(d *Disk) string {
	var l []string
	for _, name := range d.List() {
		s, _ := d.Read(name)
		l = append(l, name+"="+s)
	}
	return strings.Join(l, " ")
}

func checkSeen(t *testing.T, d *Disk, want string) {
	t.Helper()
	if got := seen(d); got != want {
		t.Errorf("the disk has %q; want %q", got, want)
	}
}

func checkRead(t *testing.T, d *Disk, name, want string, e api.Errno) {
	t.Helper()
	if s, f := d.Read(name); s != want || f != e {
		t.Errorf("Read(%q): %q, %d; want %q, %d", name, s, f, want, e)
	}
}

func checkLoose(t *testing.T, d *Disk, changes, size int) {
	t.Helper()
	if n, m := d.Loose(); n != changes || m != size {
		t.Errorf("Loose: %d, %d; want %d, %d", n, m, changes, size)
	}
}

func checkSize(t *testing.T, d *Disk, want int) {
	t.Helper()
	if n := d.Size(); n != want {
		t.Errorf("Size: %d; want %d", n, want)
	}
}

func checkDead(t *testing.T, d *Disk, want bool) {
	t.Helper()
	if d.Dead() != want {
		t.Errorf("Dead: %v", !want)
	}
}

// changes tells each of the six kinds of change, of a disk that has a file a.
func changes() map[string]func(*Disk) api.Errno {
	return map[string]func(*Disk) api.Errno{
		"Create":  func(d *Disk) api.Errno { return d.Create("new") },
		"Append":  func(d *Disk) api.Errno { return d.Append("a", "more") },
		"Nothing": func(d *Disk) api.Errno { return d.Append("a", "") },
		"Sync":    func(d *Disk) api.Errno { return d.Sync("a") },
		"Rename":  func(d *Disk) api.Errno { return d.Rename("a", "other") },
		"Itself":  func(d *Disk) api.Errno { return d.Rename("a", "a") },
		"Remove":  func(d *Disk) api.Errno { return d.Remove("a") },
		"SyncDir": func(d *Disk) api.Errno { return d.SyncDir() },
	}
}

// some makes a disk with all that can be: sure and loose bytes, sure and pending names, and some that are gone.
func some(t *testing.T) *Disk {
	t.Helper()
	d := New()
	ok(t, d.Create("a"), d.Append("a", "sure"), d.Sync("a"), d.Create("b"), d.Append("b", "bb"), d.Create("gone"), d.SyncDir())
	ok(t, d.Append("a", "loose"), d.Remove("gone"), d.Create("c"), d.Append("c", "cc"), d.Rename("b", "d"))
	return d
}

// P3.1: names and changes.

func TestMay(t *testing.T) {
	for _, name := range rightNames {
		if !May(name) {
			t.Errorf("%q may be a name", name)
		}
	}
	for _, name := range wrongNames {
		if May(name) {
			t.Errorf("%q may not be a name", name)
		}
	}
	for size := range 60 {
		if got, want := May(strings.Repeat("x", size)), size >= 1 && size <= 20; got != want {
			t.Errorf("a name of %d bytes: %v", size, got)
		}
	}
}

func TestMayEachByte(t *testing.T) {
	const letters = "abcdefghijklmnopqrstuvwxyz0123456789."
	for c := range 256 {
		s := string([]byte{byte(c)})
		want := strings.Contains(letters, s)
		for _, name := range []string{s, "a" + s, s + "a", strings.Repeat("a", 19) + s, "aa" + s + "aa"} {
			if May(name) != want {
				t.Errorf("May(%q): %v", name, !want)
			}
		}
	}
}

func TestNew(t *testing.T) {
	d := New()
	checkSeen(t, d, "")
	checkSize(t, d, 0)
	checkLoose(t, d, 0, 0)
	checkDead(t, d, false)
	checkRead(t, d, "a", "", api.ErrNone)
	if n := len(d.List()); n != 0 {
		t.Errorf("%d names", n)
	}
	d.Crash(5, []int{5})
	checkSeen(t, d, "")
}

func TestNewQuota(t *testing.T) {
	d := New()
	ok(t, d.Create("a"), d.Create("b"))
	told(t, api.ErrFull, d.Append("a", strings.Repeat("x", 1<<20+1)))
	ok(t, d.Append("a", strings.Repeat("x", 1<<20-1)), d.Append("b", "y"), d.Append("b", ""))
	told(t, api.ErrFull, d.Append("a", "z"), d.Append("b", "z"))
	checkSize(t, d, 1<<20)
}

func TestNewFuseIsOff(t *testing.T) {
	d := New()
	ok(t, d.Create("a"))
	for range 5000 {
		ok(t, d.Append("a", "x"), d.Sync("a"), d.Rename("a", "b"), d.Rename("b", "a"), d.SyncDir())
	}
	checkSize(t, d, 5000)
}

func TestDisksShareNothing(t *testing.T) {
	d, other := some(t), New()
	d.Quota(0)
	d.Fuse(0)
	told(t, api.ErrDown, d.SyncDir())
	checkSeen(t, other, "")
	ok(t, other.Create("a"), other.Append("a", "x"))
	checkSeen(t, other, "a=x")
	checkSeen(t, d, "a=sureloose c=cc d=bb")
}

func TestCreate(t *testing.T) {
	d := New()
	for _, name := range rightNames {
		ok(t, d.Create(name))
		checkRead(t, d, name, "", api.OK)
		told(t, api.ErrTwice, d.Create(name))
	}
	checkLoose(t, d, len(rightNames), 0)
	for _, name := range wrongNames {
		told(t, api.ErrKey, d.Create(name))
	}
	ok(t, d.Append("a", "x"))
	told(t, api.ErrTwice, d.Create("a"))
	checkRead(t, d, "a", "x", api.OK)
	ok(t, d.Remove("a"), d.Create("a"))
	checkRead(t, d, "a", "", api.OK)
	checkLoose(t, d, len(rightNames)+2, 0)
}

func TestCreateMany(t *testing.T) {
	d := New()
	for i := range 60 {
		ok(t, d.Create("f"+strconv.Itoa(i)))
	}
	told(t, api.ErrMany, d.Create("x"))
	told(t, api.ErrTwice, d.Create("f7"))
	told(t, api.ErrKey, d.Create("X"))
	ok(t, d.Rename("f7", "x"), d.Append("x", "x"))
	told(t, api.ErrMany, d.Create("f7"))
	ok(t, d.Rename("f8", "x"), d.Create("f7"))
	told(t, api.ErrMany, d.Create("f8"))
	ok(t, d.Remove("x"), d.Create("f8"))
	told(t, api.ErrMany, d.Create("x"))
	if n := len(d.List()); n != 60 {
		t.Errorf("%d names", n)
	}
	checkLoose(t, d, 65, 0)
}

func TestAppend(t *testing.T) {
	d := New()
	told(t, api.ErrNone, d.Append("a", ""), d.Append("", "x"), d.Append("A", "x"))
	ok(t, d.Create("a"), d.Create("b"), d.Append("a", "x"), d.Append("b", "\x00\xff"), d.Append("a", ""), d.Append("a", "yz"))
	checkSeen(t, d, "a=xyz b=\x00\xff")
	ok(t, d.Rename("a", "c"), d.Append("c", "!"))
	told(t, api.ErrNone, d.Append("a", "x"))
	checkSeen(t, d, "b=\x00\xff c=xyz!")
	checkLoose(t, d, 3, 6)
}

func TestAppendIsNotShared(t *testing.T) {
	d := New()
	ok(t, d.Create("a"), d.Append("a", "abc"), d.Sync("a"), d.Append("a", "def"), d.SyncDir())
	before, _ := d.Read("a")
	d.Crash(0, []int{1})
	ok(t, d.Append("a", "XYZ"))
	checkRead(t, d, "a", "abcdXYZ", api.OK)
	if before != "abcdef" {
		t.Errorf("what was read is %q now", before)
	}
}

func TestSync(t *testing.T) {
	d := New()
	told(t, api.ErrNone, d.Sync("a"), d.Sync(""), d.Sync("A"))
	ok(t, d.Create("a"), d.Create("b"), d.SyncDir(), d.Append("a", "x"), d.Append("b", "y"), d.Sync("a"), d.Append("a", "z"))
	checkLoose(t, d, 0, 2)
	d.Crash(0, nil)
	checkSeen(t, d, "a=x b=")
}

func TestSyncGoesWithTheFile(t *testing.T) {
	d := New()
	ok(t, d.Create("a"), d.Create("b"), d.SyncDir(), d.Append("a", "x"), d.Append("b", "y"), d.Rename("a", "c"), d.Sync("c"), d.Sync("b"), d.Remove("b"))
	d.Crash(0, nil)
	checkSeen(t, d, "a=x b=y")
}

func TestRename(t *testing.T) {
	d := New()
	told(t, api.ErrNone, d.Rename("a", "b"), d.Rename("a", "a"), d.Rename("", ""), d.Rename("A", "b"))
	ok(t, d.Create("a"), d.Create("b"), d.Append("a", "x"), d.Append("b", "yy"))
	for _, name := range wrongNames {
		told(t, api.ErrKey, d.Rename("a", name))
		told(t, api.ErrNone, d.Rename("c", name))
	}
	checkLoose(t, d, 2, 3)
	for _, name := range rightNames {
		ok(t, d.Rename("b", name), d.Rename(name, "b"))
		if name == "a" {
			ok(t, d.Create("a"), d.Append("a", "x"))
		}
	}
	ok(t, d.Rename("b", "a"))
	checkSeen(t, d, "a=yy")
	checkSize(t, d, 2)
	told(t, api.ErrNone, d.Rename("b", "c"))
}

func TestRenameToItself(t *testing.T) {
	d := New()
	ok(t, d.Create("a"), d.Append("a", "x"), d.SyncDir(), d.Rename("a", "a"), d.Rename("a", "a"))
	checkSeen(t, d, "a=x")
	checkLoose(t, d, 2, 1)
	ok(t, d.Rename("a", "b"))
	d.Crash(2, []int{1})
	checkSeen(t, d, "a=x")
}

func TestRemove(t *testing.T) {
	d := New()
	told(t, api.ErrNone, d.Remove("a"), d.Remove(""), d.Remove("A"))
	ok(t, d.Create("a"), d.Create("b"), d.Append("a", "x"), d.Remove("a"))
	told(t, api.ErrNone, d.Remove("a"), d.Append("a", "x"), d.Sync("a"), d.Rename("a", "c"))
	checkRead(t, d, "a", "", api.ErrNone)
	checkSeen(t, d, "b=")
	checkLoose(t, d, 3, 0)
}

func TestSyncDir(t *testing.T) {
	d := New()
	ok(t, d.SyncDir(), d.Create("a"), d.Append("a", "x"), d.Create("b"), d.Create("c"), d.SyncDir())
	checkLoose(t, d, 0, 1)
	ok(t, d.Rename("a", "d"), d.Remove("b"), d.SyncDir(), d.SyncDir())
	checkLoose(t, d, 0, 1)
	d.Crash(9, []int{9, 9})
	checkSeen(t, d, "c= d=x")
}

func TestSyncDirLeavesLaterChangesPending(t *testing.T) {
	d := New()
	ok(t, d.Create("a"), d.SyncDir(), d.Create("b"), d.Remove("a"))
	checkSeen(t, d, "b=")
	d.Crash(0, nil)
	checkSeen(t, d, "a=")
}

func TestEachChangeBurns(t *testing.T) {
	for name, do := range changes() {
		d := some(t)
		d.Fuse(1)
		ok(t, do(d))
		checkDead(t, d, false)
		told(t, api.ErrDown, d.SyncDir())
		checkDead(t, d, true)

		d = some(t)
		before := seen(d)
		n, m := d.Loose()
		d.Fuse(0)
		checkDead(t, d, false)
		if e := do(d); e != api.ErrDown || !d.Dead() {
			t.Errorf("%s, without a fuse: %d", name, e)
		}
		checkSeen(t, d, before)
		checkLoose(t, d, n, m)
	}
}

func TestErrorsBurnNothing(t *testing.T) {
	d := some(t)
	d.Fuse(1)
	d.Quota(d.Size())
	told(t, api.ErrKey, d.Create("A"), d.Rename("a", "A"))
	told(t, api.ErrTwice, d.Create("a"))
	told(t, api.ErrNone, d.Append("x", ""), d.Sync("x"), d.Rename("x", "y"), d.Remove("x"))
	told(t, api.ErrFull, d.Append("a", "x"))
	checkDead(t, d, false)
	ok(t, d.Sync("a"))
	told(t, api.ErrDown, d.Sync("a"))
}

func TestFirstErrorFirst(t *testing.T) {
	d := New()
	for i := range 60 {
		ok(t, d.Create("f"+strconv.Itoa(i)))
	}
	ok(t, d.Append("f0", "x"))
	d.Quota(0)
	d.Fuse(0)
	told(t, api.ErrDown, d.SyncDir())
	told(t, api.ErrKey, d.Create("A"), d.Rename("f0", "A"))
	told(t, api.ErrTwice, d.Create("f0"))
	told(t, api.ErrMany, d.Create("x"))
	told(t, api.ErrNone, d.Append("x", "x"), d.Sync("x"), d.Rename("x", "A"), d.Remove("x"))
	told(t, api.ErrFull, d.Append("f0", ""), d.Append("f0", "x"))
	told(t, api.ErrDown, d.Sync("f0"), d.Rename("f0", "x"), d.Rename("f0", "f0"), d.Remove("f0"), d.SyncDir())
}

// P3.2: what is asked and set, and crashes.

func TestReadAndList(t *testing.T) {
	d := New()
	names := []string{"b", "a", ".", "aa", "z", "0", "a.", "10", "9"}
	for _, name := range names {
		ok(t, d.Create(name), d.Append(name, name+"!"))
	}
	for _, name := range names {
		checkRead(t, d, name, name+"!", api.OK)
	}
	for _, name := range append([]string{"c", "aaa"}, wrongNames...) {
		checkRead(t, d, name, "", api.ErrNone)
	}
	want := []string{".", "0", "10", "9", "a", "a.", "aa", "b", "z"}
	if l := d.List(); !slices.Equal(l, want) {
		t.Errorf("List: %v", l)
	}
	l := d.List()
	l[0] = "changed"
	if l := d.List(); !slices.Equal(l, want) {
		t.Errorf("List, its answer changed: %v", l)
	}
}

func TestReadOfBytesThatAreNotText(t *testing.T) {
	d := New()
	all := make([]byte, 256)
	for c := range all {
		all[c] = byte(c)
	}
	ok(t, d.Create("a"), d.Append("a", string(all)), d.Append("a", "\x00"))
	checkRead(t, d, "a", string(all)+"\x00", api.OK)
}

func TestSizeCountsWhatHasAName(t *testing.T) {
	d := New()
	ok(t, d.Create("a"), d.Create("b"), d.Create("c"), d.Append("a", "x"), d.Append("b", "yy"), d.Append("c", "zzz"), d.SyncDir())
	checkSize(t, d, 6)
	ok(t, d.Remove("a"))
	checkSize(t, d, 5)
	ok(t, d.Rename("b", "c"))
	checkSize(t, d, 2)
	checkLoose(t, d, 2, 2)
	d.Crash(0, []int{9, 9, 9})
	checkSize(t, d, 6)
}

func TestQuota(t *testing.T) {
	d := New()
	ok(t, d.Create("a"), d.Create("b"))
	d.Quota(5)
	ok(t, d.Append("a", "xyz"))
	told(t, api.ErrFull, d.Append("b", "xyz"))
	checkSeen(t, d, "a=xyz b=")
	ok(t, d.Append("b", "xy"), d.Append("b", ""))
	told(t, api.ErrFull, d.Append("b", "x"), d.Append("a", "x"))
	d.Quota(4)
	told(t, api.ErrFull, d.Append("a", ""))
	checkSeen(t, d, "a=xyz b=xy")
	ok(t, d.Create("c"), d.Sync("a"), d.SyncDir(), d.Rename("a", "c"), d.Rename("c", "a"), d.Remove("b"), d.Append("a", "!"))
	told(t, api.ErrFull, d.Append("a", "!"))
	d.Quota(math.MaxInt)
	ok(t, d.Append("a", strings.Repeat("x", 2<<20)))
	checkSize(t, d, 2<<20+4)
}

func TestQuotaBelowZeroIsZero(t *testing.T) {
	for _, n := range []int{0, -1, -5, math.MinInt} {
		d := New()
		ok(t, d.Create("a"))
		d.Quota(n)
		ok(t, d.Append("a", ""))
		told(t, api.ErrFull, d.Append("a", "x"))
	}
}

func TestFuse(t *testing.T) {
	for n := range 20 {
		d := New()
		d.Fuse(n)
		for i := range n {
			ok(t, d.Create("f"+strconv.Itoa(i)))
		}
		checkDead(t, d, false)
		told(t, api.ErrDown, d.Create("x"))
		checkDead(t, d, true)
		if got := len(d.List()); got != n {
			t.Errorf("a fuse of %d: %d names", n, got)
		}
		checkLoose(t, d, n, 0)
	}
}

func TestFuseIsSetAnew(t *testing.T) {
	d := New()
	d.Fuse(3)
	ok(t, d.SyncDir())
	d.Fuse(1)
	ok(t, d.SyncDir())
	for _, n := range []int{-1, -2, math.MinInt} {
		d.Fuse(0)
		d.Fuse(n)
		ok(t, d.SyncDir(), d.SyncDir(), d.SyncDir(), d.SyncDir())
	}
	d.Fuse(math.MaxInt)
	ok(t, d.SyncDir(), d.SyncDir())
	checkDead(t, d, false)
	d.Fuse(0)
	checkDead(t, d, false)
	told(t, api.ErrDown, d.SyncDir())
	checkDead(t, d, true)
}

func TestFuseOfADeadDisk(t *testing.T) {
	for _, n := range []int{-1, 0, 1, 7, math.MaxInt, math.MinInt} {
		d := some(t)
		d.Fuse(0)
		told(t, api.ErrDown, d.SyncDir())
		d.Fuse(n)
		checkDead(t, d, true)
		told(t, api.ErrDown, d.SyncDir(), d.Create("x"), d.Remove("a"))
		d.Crash(0, nil)
		checkDead(t, d, false)
		ok(t, d.SyncDir(), d.SyncDir(), d.SyncDir())
	}
}

func TestCrashExamples(t *testing.T) {
	d := New()
	ok(t, d.Create("a"), d.Append("a", "xyz"), d.SyncDir())
	d.Crash(0, []int{2})
	checkSeen(t, d, "a=xy")

	d = New()
	ok(t, d.Create("a"))
	d.Crash(0, nil)
	checkSeen(t, d, "")
	ok(t, d.Create("a"))
	d.Crash(1, nil)
	checkSeen(t, d, "a=")
}

func TestCrashOfTheDirectory(t *testing.T) {
	for _, x := range []struct {
		n    int
		want string
	}{
		{math.MinInt, "a=a b=b e=e"},
		{-1, "a=a b=b e=e"},
		{0, "a=a b=b e=e"},
		{1, "b=b c=a e=e"},
		{2, "b=a e=e"},
		{3, "b=a d=d e=e"},
		{4, "b=a d=d"},
		{5, "b=a d=d e="},
		{6, "b=a d=d e="},
		{7, "d=d e=a"},
		{8, "d=d e=a"},
		{math.MaxInt, "d=d e=a"},
	} {
		d := New()
		for _, name := range []string{"a", "b", "e"} {
			ok(t, d.Create(name), d.Append(name, name), d.Sync(name))
		}
		ok(t, d.SyncDir(), d.Rename("a", "c"), d.Rename("c", "b"), d.Create("d"), d.Append("d", "d"), d.Sync("d"), d.Remove("e"), d.Create("e"), d.Rename("d", "d"), d.Rename("b", "e"))
		checkLoose(t, d, 7, 0)
		checkSeen(t, d, "d=d e=a")
		d.Crash(x.n, nil)
		checkSeen(t, d, x.want)
		checkLoose(t, d, 0, 0)
		d.Crash(math.MaxInt, []int{9, 9, 9, 9})
		checkSeen(t, d, x.want)
	}
}

func TestCrashOfBytes(t *testing.T) {
	for _, x := range []struct {
		keep []int
		want string
	}{
		{nil, "a=A b=B c="},
		{[]int{}, "a=A b=B c="},
		{[]int{1}, "a=A1 b=B c="},
		{[]int{0, 2}, "a=A b=B45 c="},
		{[]int{3, 0, 1}, "a=A123 b=B c=7"},
		{[]int{4, 1, 9, 5}, "a=A123 b=B4 c=7"},
		{[]int{-1, -7, -9}, "a=A b=B c="},
		{[]int{math.MinInt, math.MaxInt, math.MinInt}, "a=A b=B456 c="},
		{[]int{math.MaxInt, math.MinInt, math.MaxInt, math.MaxInt}, "a=A123 b=B c=7"},
	} {
		d := New()
		ok(t, d.Create("c"), d.Create("b"), d.Create("a"), d.SyncDir(), d.Append("b", "B"), d.Sync("b"), d.Append("b", "456"), d.Append("a", "A"), d.Sync("a"), d.Append("c", "7"), d.Append("a", "12"), d.Append("a", "3"))
		keep := slices.Clone(x.keep)
		checkLoose(t, d, 0, 7)
		d.Crash(0, x.keep)
		checkSeen(t, d, x.want)
		checkLoose(t, d, 0, 0)
		if !slices.Equal(keep, x.keep) {
			t.Errorf("keep is %v now", x.keep)
		}
		d.Crash(0, nil)
		checkSeen(t, d, x.want)
	}
}

func TestCrashCountsFilesByTheirNamesThen(t *testing.T) {
	for n, want := range []string{"a=x m=", "m= z=x", "z=xy"} {
		d := New()
		ok(t, d.Create("a"), d.Create("m"), d.SyncDir(), d.Append("a", "xyz"), d.Append("m", "uvw"), d.Rename("a", "z"), d.Remove("m"))
		d.Crash(n, [][]int{{1, 0}, {0, 1}, {2}}[n])
		checkSeen(t, d, want)
	}
}

func TestCrashOfWhatWasMadeAndRemoved(t *testing.T) {
	for n, want := range []string{"", "a=x", "", "a="} {
		d := New()
		ok(t, d.Create("a"), d.Append("a", "x"), d.Remove("a"), d.Create("a"))
		d.Crash(n, []int{9})
		checkSeen(t, d, want)
	}
}

func TestCrashMakesNewAndOldNamesTwoFiles(t *testing.T) {
	d := New()
	ok(t, d.Create("a"), d.Append("a", "x"), d.Sync("a"), d.SyncDir(), d.Rename("a", "b"), d.Create("a"), d.Append("a", "new"), d.Append("b", "old"))
	d.Crash(2, []int{1, 2})
	checkSeen(t, d, "a=n b=xol")
	ok(t, d.Append("a", "!"))
	checkSeen(t, d, "a=n! b=xol")
	d.Crash(0, nil)
	checkSeen(t, d, "a=n b=xol")
}

func TestCrashLeavesTheQuota(t *testing.T) {
	d := New()
	ok(t, d.Create("a"), d.SyncDir(), d.Append("a", "xyz"))
	d.Quota(3)
	d.Crash(0, []int{1})
	told(t, api.ErrFull, d.Append("a", "xyz"))
	ok(t, d.Append("a", "yz"), d.Sync("a"), d.Remove("a"), d.Create("b"), d.Append("b", "x"), d.Rename("b", "b"))
	d.Quota(0)
	d.Crash(0, nil)
	checkSeen(t, d, "a=xyz")
	told(t, api.ErrFull, d.Append("a", ""))
}

func TestCrashTakesTheFuseOff(t *testing.T) {
	for _, n := range []int{0, 1, 2, 5} {
		d := New()
		d.Fuse(n)
		d.Crash(0, nil)
		checkDead(t, d, false)
		for range 8 {
			ok(t, d.SyncDir())
		}
	}
	d := New()
	d.Fuse(0)
	told(t, api.ErrDown, d.Create("a"))
	d.Crash(1, nil)
	checkDead(t, d, false)
	checkSeen(t, d, "")
	ok(t, d.Create("a"))
	d.Fuse(0)
	told(t, api.ErrDown, d.SyncDir())
}

func TestChangesBehindACrash(t *testing.T) {
	d := some(t)
	d.Crash(1, []int{2})
	checkSeen(t, d, "a=surelo b=")
	ok(t, d.Append("a", "!"), d.Create("c"), d.Remove("b"), d.Rename("a", "z"))
	checkSeen(t, d, "c= z=surelo!")
	checkLoose(t, d, 3, 1)
	d.Crash(0, nil)
	checkSeen(t, d, "a=surelo b=")
}

// P3.3: what follows.

// model is a disk by its words: it knows every directory from the sure one to that of now.
type model struct {
	rows        []map[string]int // the sure directory, and what it was behind each pending change
	bytes       map[int]string
	sure        map[int]int
	quota, fuse int
	dead        bool
}

func newModel() *model {
	return &model{rows: []map[string]int{{}}, bytes: map[int]string{}, sure: map[int]int{}, quota: 1 << 20, fuse: -1}
}

func (m *model) now() map[string]int { return m.rows[len(m.rows)-1] }

func (m *model) id(name string) (int, bool) {
	id, is := m.now()[name]
	return id, is
}

func (m *model) size() int {
	n := 0
	for _, id := range m.now() {
		n += len(m.bytes[id])
	}
	return n
}

func (m *model) loose() (int, int) {
	n := 0
	for _, id := range m.now() {
		n += len(m.bytes[id]) - m.sure[id]
	}
	return len(m.rows) - 1, n
}

// burnt makes a change if the fuse lets it.
func (m *model) burnt(do func()) api.Errno {
	if m.dead || m.fuse == 0 {
		m.dead = true
		return api.ErrDown
	}
	if m.fuse > 0 {
		m.fuse--
	}
	do()
	return api.OK
}

// with makes the directory of now another one.
func (m *model) with(do func(map[string]int)) {
	row := map[string]int{}
	for name, id := range m.now() {
		row[name] = id
	}
	do(row)
	m.rows = append(m.rows, row)
}

func (m *model) create(name string) api.Errno {
	if !modelMay(name) {
		return api.ErrKey
	}
	if _, is := m.id(name); is {
		return api.ErrTwice
	}
	if len(m.now()) == 60 {
		return api.ErrMany
	}
	return m.burnt(func() {
		m.bytes[len(m.bytes)] = ""
		m.with(func(row map[string]int) { row[name] = len(m.bytes) - 1 })
	})
}

func (m *model) append(name, b string) api.Errno {
	id, is := m.id(name)
	if !is {
		return api.ErrNone
	}
	if m.size()+len(b) > m.quota {
		return api.ErrFull
	}
	return m.burnt(func() { m.bytes[id] += b })
}

func (m *model) sync(name string) api.Errno {
	id, is := m.id(name)
	if !is {
		return api.ErrNone
	}
	return m.burnt(func() { m.sure[id] = len(m.bytes[id]) })
}

func (m *model) rename(from, to string) api.Errno {
	id, is := m.id(from)
	if !is {
		return api.ErrNone
	}
	if !modelMay(to) {
		return api.ErrKey
	}
	return m.burnt(func() {
		m.with(func(row map[string]int) {
			row[to] = id
			if from != to {
				delete(row, from)
			}
		})
	})
}

func (m *model) remove(name string) api.Errno {
	if _, is := m.id(name); !is {
		return api.ErrNone
	}
	return m.burnt(func() { m.with(func(row map[string]int) { delete(row, name) }) })
}

func (m *model) syncDir() api.Errno {
	return m.burnt(func() { m.rows = []map[string]int{m.now()} })
}

func (m *model) crash(n int, keep []int) {
	for n >= len(m.rows) {
		n--
	}
	for n < 0 {
		n++
	}
	row := m.rows[n]
	for k, name := range modelNames(row) {
		more := 0
		if k < len(keep) {
			more = keep[k]
		}
		id := row[name]
		switch {
		case more < 0:
			more = 0
		case more > len(m.bytes[id])-m.sure[id]:
			more = len(m.bytes[id]) - m.sure[id]
		}
		m.bytes[id] = m.bytes[id][:m.sure[id]+more]
		m.sure[id] = len(m.bytes[id])
	}
	m.rows, m.dead, m.fuse = []map[string]int{row}, false, -1
}

func (m *model) seen() string {
	var l []string
	for _, name := range modelNames(m.now()) {
		l = append(l, name+"="+m.bytes[m.now()[name]])
	}
	return strings.Join(l, " ")
}

func modelMay(name string) bool {
	return name != "" && len(name) <= 20 && strings.Trim(name, "abcdefghijklmnopqrstuvwxyz0123456789.") == ""
}

func modelNames(row map[string]int) []string {
	var l []string
	for name := range row {
		l = append(l, name)
	}
	slices.Sort(l)
	return l
}

// dice are numbers that are the same in every run.
type dice uint64

func (x *dice) below(n int) int {
	*x = *x*6364136223846793005 + 1442695040888963407
	return int(uint64(*x) >> 33 % uint64(n))
}

func (x *dice) name() string {
	return []string{"a", "b", "c", "d", "e.1", "e.2", "0", "F"}[x.below(8)]
}

func (x *dice) keep() []int {
	var l []int
	for range x.below(8) {
		l = append(l, x.below(7)-1)
	}
	return l
}

// step does one thing to a disk and to a model, and tells what both told.
func step(x *dice, d *Disk, m *model) (string, api.Errno, api.Errno) {
	a, b := x.name(), x.name()
	switch n := x.below(40); {
	case n < 6:
		return "Create " + a, d.Create(a), m.create(a)
	case n < 16:
		s := "0123456789"[:x.below(5)]
		return "Append " + a + " " + s, d.Append(a, s), m.append(a, s)
	case n < 20:
		return "Sync " + a, d.Sync(a), m.sync(a)
	case n < 26:
		return "Rename " + a + " " + b, d.Rename(a, b), m.rename(a, b)
	case n < 30:
		return "Remove " + a, d.Remove(a), m.remove(a)
	case n < 33:
		return "SyncDir", d.SyncDir(), m.syncDir()
	case n < 35:
		n := x.below(60) - 2
		d.Quota(n)
		m.quota = max(n, 0)
		return "Quota " + strconv.Itoa(n), 0, 0
	case n < 37:
		n := x.below(12) - 2
		d.Fuse(n)
		if !m.dead {
			m.fuse = max(n, -1)
		}
		return "Fuse " + strconv.Itoa(n), 0, 0
	}
	n, keep := x.below(9)-1, x.keep()
	d.Crash(n, keep)
	m.crash(n, keep)
	return "Crash " + strconv.Itoa(n), 0, 0
}

func TestByItsWords(t *testing.T) {
	met := map[api.Errno]int{}
	for seed := range 300 {
		x := dice(seed)
		d, m := New(), newModel()
		for range 200 {
			what, got, want := step(&x, d, m)
			met[got]++
			n, size := d.Loose()
			wantN, wantSize := m.loose()
			if got != want || seen(d) != m.seen() || n != wantN || size != wantSize || d.Size() != m.size() || d.Dead() != m.dead {
				t.Fatalf("seed %d, %s: %d, %q, %d, %d, %d, %v; want %d, %q, %d, %d, %d, %v", seed, what, got, seen(d), n, size, d.Size(), d.Dead(), want, m.seen(), wantN, wantSize, m.size(), m.dead)
			}
		}
	}
	for _, e := range []api.Errno{api.OK, api.ErrKey, api.ErrTwice, api.ErrNone, api.ErrFull, api.ErrDown} {
		if met[e] < 50 {
			t.Errorf("%d was told %d times only", e, met[e])
		}
	}
}

func TestTheSameCallsAnswerTheSame(t *testing.T) {
	for seed := range 50 {
		x, y := dice(seed), dice(seed)
		d, other := New(), New()
		for range 200 {
			what, e, _ := step(&x, d, newModel())
			_, f, _ := step(&y, other, newModel())
			if e != f || seen(d) != seen(other) {
				t.Fatalf("seed %d, %s: %d, %q; %d, %q", seed, what, e, seen(d), f, seen(other))
			}
		}
	}
}

// grown tells a disk that a seed leads to, without crashes, and what it had when all of it was sure: in between all is synced.
func grown(t *testing.T, seed int) (*Disk, map[string]string) {
	t.Helper()
	x := dice(seed)
	d, m := New(), newModel()
	for range 60 {
		step(&x, d, m)
	}
	d.Crash(0, nil)
	d.Quota(1 << 20)
	sure := map[string]string{}
	for _, name := range []string{"a", "b", "c", "d"} {
		d.Create(name)
		ok(t, d.Append(name, name+strconv.Itoa(seed)), d.Sync(name))
	}
	ok(t, d.SyncDir())
	for _, name := range d.List() {
		s, _ := d.Read(name)
		sure[name] = s
	}
	return d, sure
}

func TestSureStays(t *testing.T) {
	for seed := range 200 {
		for n := range 8 {
			d, sure := grown(t, seed)
			x := dice(seed * 31)
			for range 20 {
				name := x.name()
				if x.below(5) == 0 {
					d.Create("new" + strconv.Itoa(x.below(9)))
				} else if _, e := d.Read(name); e == api.OK {
					ok(t, d.Append(name, "more"))
				}
			}
			was := map[string]string{}
			for _, name := range d.List() {
				was[name], _ = d.Read(name)
			}
			d.Crash(n-1, x.keep())
			for name, s := range sure {
				if got, e := d.Read(name); e != api.OK || !strings.HasPrefix(got, s) {
					t.Fatalf("seed %d: %s was %q, sure, and is %q, %d", seed, name, s, got, e)
				}
			}
			for _, name := range d.List() {
				if got, _ := d.Read(name); !strings.HasPrefix(was[name], got) {
					t.Fatalf("seed %d: %s was %q, and is %q", seed, name, was[name], got)
				}
			}
		}
	}
}

func TestSureStaysUnderOtherNames(t *testing.T) {
	for n := range 5 {
		for keep := range 5 {
			d := New()
			ok(t, d.Create("a"), d.Append("a", "sure"), d.Sync("a"), d.SyncDir(), d.Append("a", "more"), d.Rename("a", "b"), d.Append("b", "!"), d.Rename("b", "c"), d.Sync("c"), d.Append("c", "xyz"))
			d.Crash(n, []int{keep})
			want := []string{"a", "b", "c", "c", "c"}[n] + "=suremore!" + "xyz"[:min(keep, 3)]
			checkSeen(t, d, want)
		}
	}
}

func TestWhoIsDeadChangesNothing(t *testing.T) {
	for n := -1; n < 6; n++ {
		for _, keep := range [][]int{nil, {1, 1, 1}, {9, 9, 9, 9}, {0, 2}} {
			d, alive := some(t), some(t)
			d.Fuse(0)
			told(t, api.ErrDown, d.SyncDir())
			before := seen(d)
			changes, size := d.Loose()
			told(t, api.ErrDown, d.Create("x"), d.Append("a", "x"), d.Append("c", ""), d.Sync("a"), d.Sync("c"), d.Sync("d"), d.Rename("a", "c"), d.Rename("a", "a"), d.Remove("c"), d.SyncDir())
			checkSeen(t, d, before)
			checkLoose(t, d, changes, size)
			checkSize(t, d, alive.Size())
			d.Crash(n, keep)
			alive.Crash(n, keep)
			checkSeen(t, d, seen(alive))
			checkLoose(t, d, 0, 0)
		}
	}
}

func TestQuotaOfADeadDisk(t *testing.T) {
	d := some(t)
	d.Fuse(0)
	told(t, api.ErrDown, d.SyncDir())
	d.Quota(0)
	told(t, api.ErrFull, d.Append("a", "x"))
	d.Crash(0, nil)
	told(t, api.ErrFull, d.Append("a", "x"))
}

func TestManyAppendsAndPendingChanges(t *testing.T) {
	d := New()
	ok(t, d.Create("a"))
	for range 1 << 17 {
		ok(t, d.Append("a", "12345678"), d.Rename("a", "a"))
	}
	told(t, api.ErrFull, d.Append("a", "x"))
	checkLoose(t, d, 1<<17+1, 1<<20)
	d.Crash(1<<16, []int{1 << 19})
	checkSize(t, d, 1<<19)
	checkLoose(t, d, 0, 0)
}
