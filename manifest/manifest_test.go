package manifest

import (
	"fmt"
	"math"
	"slices"
	"strings"
	"testing"

	"scree/api"
	"scree/fs"
	"scree/level"
)

// P13.1: names and numbers.

func TestName(t *testing.T) {
	for n, want := range map[uint64]string{
		0:              "",
		1:              "man.1",
		9:              "man.9",
		10:             "man.10",
		305:            "man.305",
		top - 1:        "man.1099511627775",
		top:            "man.1099511627776",
		top + 1:        "",
		1 << 41:        "",
		1 << 63:        "",
		math.MaxUint64: "",
	} {
		if got := Name(n); got != want {
			t.Errorf("%d: %q, not %q", n, got, want)
		}
	}
	for _, n := range []uint64{1, 7, top} {
		if !fs.May(Name(n)) {
			t.Errorf("%q may not be a file's name", Name(n))
		}
	}
}

func TestNumber(t *testing.T) {
	numbers := []uint64{top - 1, top}
	for n := range uint64(1200) {
		numbers = append(numbers, n+1)
	}
	for shift := range 40 {
		numbers = append(numbers, 1<<shift, 1<<shift+3)
	}
	for _, want := range numbers {
		name := fmt.Sprintf("man.%d", want)
		if n, is := Number(name); n != want || !is || Name(want) != name {
			t.Errorf("%q: %d, %v, %q", name, n, is, Name(want))
		}
	}
}

// noNames are texts that name no manifest's file.
func noNames() []string {
	return []string{
		"", "m", "man", "man.", "man1", "1", ".1", "an.1",
		"man.0", "man.00", "man.01", "man.007", "man.+1", "man.-1", "man.-0", "man.+0",
		"man. 1", "man.1 ", " man.1", "man.1\n", "man.1\x00", "man.1.", "man..1", "man.1.2", "man.1,2", "man.1_000",
		"man.x", "man.1x", "man.x1", "man.0x1", "man.0b1", "man.0o1", "man.1e3", "man.1.0", "man.١", "man.nan",
		"xman.1", "MAN.1", "Man.1", "man.man.1", "man-1", "man:1", "man.\xff", "1.man", "wal.1", "tab.1", "manifest.1", "current", "cur.tmp",
		"man.1099511627777", "man.2199023255552", "man.9999999999999", "man.10995116277760",
		"man.18446744073709551615", "man.18446744073709551616", "man.18446744073709551617", "man.99999999999999999999",
		"man." + strings.Repeat("0", 30), "man." + strings.Repeat("9", 1000),
	}
}

func TestNumberOfNoName(t *testing.T) {
	for _, name := range noNames() {
		if n, is := Number(name); n != 0 || is {
			t.Errorf("%.40q: %d, %v", name, n, is)
		}
	}
}

func TestNumberOfOneByteMore(t *testing.T) {
	for c := range 256 {
		name := "man.1" + string([]byte{byte(c)})
		n, is := Number(name)
		want := uint64(0)
		digit := '0' <= c && c <= '9'
		if digit {
			want = 10 + uint64(c-'0')
		}
		if n != want || is != digit {
			t.Errorf("%q: %d, %v", name, n, is)
		}
	}
}

func checkNumbers(t *testing.T, d *fs.Disk, want ...uint64) {
	t.Helper()
	if got := Numbers(d); !slices.Equal(got, want) {
		t.Errorf("Numbers: %v, not %v", got, want)
	}
}

func TestNumbers(t *testing.T) {
	checkNumbers(t, nil)
	d := fs.New()
	checkNumbers(t, d)
	for _, name := range noNames() {
		d.Create(name) // those that may be names
	}
	checkNumbers(t, d)
	for _, name := range []string{"man.12", "man.3", "man.100", "man.1099511627776", "man.20", "man.9", "man.111"} {
		if e := d.Create(name); e != api.OK {
			t.Fatal(e)
		}
	}
	checkNumbers(t, d, 3, 9, 12, 20, 100, 111, top)
	for _, e := range []api.Errno{d.Rename("man.20", "man.2"), d.Remove("man.9"), d.Rename("wal.1", "man.1"), d.Rename("man.3", "x")} {
		if e != api.OK {
			t.Fatal(e)
		}
	}
	checkNumbers(t, d, 1, 2, 12, 100, 111, top)
}

// P13.2: Read.

func TestRead(t *testing.T) {
	edits := []api.Edit{tables(6), {Gone: []uint64{2, 5}, Log: 4}, {New: at(2, m(9, "x", "y")), Next: 30, Seq: 8}, {}}
	s, v := "", level.New()
	for _, x := range edits {
		s += frameByWords(editByWords(x))
		v = apply(t, v, x)
		checkRead(t, pointed(t, s), v, 7)
	}
}

func TestReadOfOneEditThatChangesNothing(t *testing.T) {
	checkRead(t, pointed(t, frameByWords(editByWords(api.Edit{}))), level.New(), 7)
}

func TestReadTheNumber(t *testing.T) {
	for _, n := range []uint64{1, 10, top} {
		d := fs.New()
		lay(t, d, nameByWords(n), frameByWords(editByWords(tables(1))))
		lay(t, d, "current", nameByWords(n))
		lay(t, d, "man.5", frameByWords(editByWords(tables(2)))) // greater or less: what the pointer tells counts
		checkRead(t, d, apply(t, level.New(), tables(1)), n)
	}
}

func TestReadNoDisk(t *testing.T) {
	checkWrong(t, nil, api.ErrArg)
	checkNoOpen(t, nil, api.ErrArg)
}

func TestReadNoPointer(t *testing.T) {
	d := fs.New()
	checkWrong(t, d, api.ErrNone)
	lay(t, d, "man.1", frameByWords(editByWords(tables(1))))
	lay(t, d, "cur.tmp", "man.1")
	checkWrong(t, d, api.ErrNone)
	if e := d.Rename("cur.tmp", "current"); e != api.OK {
		t.Fatal(e)
	}
	checkRead(t, d, apply(t, level.New(), tables(1)), 1)
}

func TestReadAWrongPointer(t *testing.T) {
	for _, name := range append(noNames(), "man.2", "man.17", "man.1man.1", "man.1\nman.1") {
		d := fs.New()
		lay(t, d, "man.1", frameByWords(editByWords(tables(1))))
		lay(t, d, "man.7", frameByWords(editByWords(tables(1))))
		d.Create("man.") // files of names that are no manifest's
		d.Create("man.0")
		d.Append("man.0", frameByWords(editByWords(tables(1))))
		d.Create("man.01")
		d.Append("man.01", frameByWords(editByWords(tables(1))))
		lay(t, d, "current", name)
		was := state(d)
		checkWrong(t, d, api.ErrForm)
		checkNoOpen(t, d, api.ErrForm)
		checkState(t, d, was)
	}
}

func TestReadBytesThatMakeNoVersion(t *testing.T) {
	whole := frameByWords(editByWords(tables(3)))
	edit := func(x api.Edit) string { return frameByWords(editByWords(x)) }
	table := map[string]string{
		"no bytes":                    "",
		"a number alone":              whole[:1],
		"no whole frame":              whole[:len(whole)-1],
		"a wrong last byte":           whole[:len(whole)-1] + "x",
		"no frame ahead":              "\xff" + whole,
		"no edit, of no bytes":        frameByWords(""),
		"no edit":                     frameByWords("abc"),
		"half an edit":                frameByWords(editByWords(tables(3))[:20]),
		"a byte behind an edit":       frameByWords(editByWords(tables(3)) + "\x00"),
		"two edits in a frame":        frameByWords(editByWords(tables(3)) + editByWords(api.Edit{})),
		"no edit behind one":          whole + frameByWords(""),
		"no edit between two":         whole + frameByWords("x") + edit(api.Edit{}),
		"a table that may not be":     whole + edit(api.Edit{New: at(0, m(4, "b", "a")), Next: 9}),
		"a table goes that isn't":     whole + edit(api.Edit{Gone: []uint64{4}}),
		"one goes twice":              whole + edit(api.Edit{Gone: []uint64{1, 1}}),
		"it is there":                 whole + edit(api.Edit{New: at(0, m(2, "a", "b"))}),
		"a number falls":              whole + edit(api.Edit{Next: 3}),
		"above the next one's number": whole + edit(api.Edit{New: at(0, m(4, "a", "b"))}),
		"above the last one's number": edit(api.Edit{New: at(0, m(1, "a", "b")), Next: 2, Seq: 2}),
		"ranges meet":                 whole + edit(api.Edit{New: at(1, m(4, "a", "z")), Next: 9}),
		"the same one again":          whole + whole,
		"wrong ahead of what is cut":  whole + edit(api.Edit{Next: 3}) + "\x05ab",
	}
	for name, s := range table {
		t.Run(name, func(t *testing.T) {
			d := pointed(t, s)
			was := state(d)
			checkWrong(t, d, api.ErrForm)
			checkNoOpen(t, d, api.ErrForm)
			checkState(t, d, was)
		})
	}
}

func TestReadTooManyTables(t *testing.T) {
	s := ""
	for i := range 31 {
		s += frameByWords(editByWords(api.Edit{New: at(0, m(uint64(i)+1, "a", "b")), Next: 40, Seq: 3}))
		d := pointed(t, s)
		if i == 30 {
			checkWrong(t, d, api.ErrForm)
		} else if v, _, e := Read(d); e != api.OK || len(v.Files()) != i+1 {
			t.Errorf("%d tables: %d", i+1, e)
		}
	}
}

// A file is read up to where it is right, whatever stands behind.
func TestReadUpToWhereItIsRight(t *testing.T) {
	first, second := frameByWords(editByWords(tables(3))), frameByWords(editByWords(api.Edit{Gone: []uint64{1}}))
	v := apply(t, level.New(), tables(3))
	for cut := range len(second) {
		checkRead(t, pointed(t, first+second[:cut]), v, 7)
	}
	for i := range len(second) - 1 {
		b := []byte(second)
		b[i+1] ^= 0x10 // no more a frame, though its number is right
		checkRead(t, pointed(t, first+string(b)), v, 7)
		checkRead(t, pointed(t, first+string(b)+second), v, 7)
	}
	checkRead(t, pointed(t, first+second), apply(t, v, api.Edit{Gone: []uint64{1}}), 7)
}

func TestReadChangesNothing(t *testing.T) {
	d := fs.New()
	k := open(t, d)
	checkAdd(t, k, tables(5), api.OK)
	lay(t, d, "man.9", "x")
	d.Create("cur.tmp")
	d.Fuse(1)
	was := state(d)
	for range 3 {
		checkRead(t, d, k.Version(), 1)
		checkNumbers(t, d, 1, 9)
	}
	checkState(t, d, was)
	if d.SyncDir() != api.OK || d.SyncDir() != api.ErrDown { // nothing was burned
		t.Error("the fuse")
	}
	checkRead(t, d, k.Version(), 1)
}

// P13.3: Open.

func TestOpenANewDisk(t *testing.T) {
	d := fs.New()
	k := open(t, d)
	checkManifest(t, k, level.New(), 1, false)
	files := []string{"current", "man.1", "man.1", "\x08\x01\x00\x00\x00\x00\x00\x00\x00\xa4"}
	checkState(t, d, fmt.Sprintf("%q, loose 0, 0, dead false", files))
	checkRead(t, d, level.New(), 1)
}

func TestOpenAnew(t *testing.T) {
	d := fs.New()
	v := level.New()
	x := api.Edit{Next: 5}
	for n := range uint64(30) {
		k := open(t, d)
		checkManifest(t, k, v, n+1, false)
		checkList(t, d, "current", nameByWords(n+1))
		checkAdd(t, k, x, api.OK)
		v = apply(t, v, x)
		x = api.Edit{New: at(int(n%4), m(n+1, fmt.Sprintf("k%03d", n), "l")), Next: n + 10, Seq: n + 3, Log: n}
		if n%4 > 0 {
			x.New[n%4][0].Last = x.New[n%4][0].First
		}
	}
}

func TestOpenGoesOnFromTheGreatestNumber(t *testing.T) {
	for _, c := range []struct {
		names []string
		want  uint64
	}{
		{[]string{"man.1"}, 2},
		{[]string{"man.9", "man.10", "man.3"}, 11},
		{[]string{"man.1099511627775"}, top},
		{[]string{"man.01", "man.0", "wal.7", "tab.9"}, 1},
	} {
		d := fs.New()
		for _, name := range c.names {
			lay(t, d, name, "x")
		}
		k := open(t, d)
		checkManifest(t, k, level.New(), c.want, false)
		checkNumbers(t, d, c.want)
	}
}

func TestOpenGoesOnFromTheVersionsNumber(t *testing.T) {
	for _, other := range []string{"man.3", "man.6", "man.8", "man.60"} {
		d := pointed(t, frameByWords(editByWords(tables(6))))
		lay(t, d, other, "x")
		want := max(manifestsByWords(d)[1], 7) + 1
		k := open(t, d)
		checkManifest(t, k, apply(t, level.New(), tables(6)), want, false)
		checkList(t, d, "current", nameByWords(want))
	}
}

func TestOpenAboveTheGreatestNumber(t *testing.T) {
	d := fs.New()
	lay(t, d, "man.1099511627776", frameByWords(editByWords(tables(1))))
	was := state(d)
	checkNoOpen(t, d, api.ErrKey)
	checkState(t, d, was)
	lay(t, d, "current", "man.1099511627776")
	was = state(d)
	checkNoOpen(t, d, api.ErrKey)
	checkState(t, d, was)
	checkRead(t, d, apply(t, level.New(), tables(1)), top)
	d.Fuse(0)
	checkNoOpen(t, d, api.ErrKey) // that is seen ahead of a change
	checkState(t, d, was)
}

func TestOpenLeavesOtherFiles(t *testing.T) {
	d := fs.New()
	want := []string{"a", "current", "current1", "man.", "man.0", "man.01", "man.2", "man.x", "tab.1", "wal.1"}
	for _, name := range want {
		if name != "current" && name != "man.2" {
			lay(t, d, name, "x")
		}
	}
	open(t, d)
	open(t, d)
	checkList(t, d, want...)
}

// setup makes a disk, each time the same one.
type setup func(t *testing.T) *fs.Disk

// setups are disks that may be opened: new ones, such with versions of many sizes, and such on which a crash or others have left files.
func setups() map[string]setup {
	with := func(n int, more ...string) setup {
		return func(t *testing.T) *fs.Disk {
			d := fs.New()
			checkAdd(t, open(t, d), tables(n), api.OK)
			for _, name := range more {
				d.Create(name) // neither these names nor these bytes are sure
				d.Append(name, "zz")
			}
			return d
		}
	}
	all := map[string]setup{
		"new":                func(*testing.T) *fs.Disk { return fs.New() },
		"one is cut off":     with(0, "man.2"),
		"others":             with(5, "man.9", "man.100", "man.12", "tab.3", "wal.1"),
		"a pointer comes":    with(3, "cur.tmp"),
		"all of these":       with(9, "man.3", "man.2", "cur.tmp", "man.11"),
		"no pointer, others": func(t *testing.T) *fs.Disk { d := fs.New(); lay(t, d, "man.4", "x"); d.Create("cur.tmp"); return d },
	}
	for _, n := range []int{0, 1, 3, 4, 5, 7, 8, 9, 31, 120} {
		all[fmt.Sprintf("%d tables", n)] = with(n)
	}
	return all
}

// compareOpen holds what Open does to a disk, and tells, against the words done to another such disk; then both of them crash.
func compareOpen(t *testing.T, fresh setup, prepare, crash func(d *fs.Disk)) api.Errno {
	t.Helper()
	a, b := fresh(t), fresh(t)
	prepare(a)
	prepare(b)
	v, n, e := Read(b)
	if e == api.ErrNone {
		v, e = level.New(), api.OK
	}
	if e != api.OK {
		t.Fatal(e)
	}
	n, want := openByWords(b, v, n)
	k, e := Open(a)
	if e != want || (k != nil) != (e == api.OK) {
		t.Fatalf("Open: %v, %d, not %d", k, e, want)
	}
	if k != nil {
		checkManifest(t, k, v, n, false)
	}
	checkState(t, a, state(b))
	crash(a)
	crash(b)
	checkState(t, a, state(b))
	return e
}

// TestOpenStepByStep lets the disk die at each step: what is done so far, and what is sure of it, tells which steps there are, and their order.
func TestOpenStepByStep(t *testing.T) {
	for name, fresh := range setups() {
		t.Run(name, func(t *testing.T) {
			fuse := 0
			for openTillTheFuseHasRunOut(t, fresh, fuse) != api.OK {
				if fuse++; fuse > 100 {
					t.Fatal("it never opens")
				}
			}
		})
	}
}

func openTillTheFuseHasRunOut(t *testing.T, fresh setup, fuse int) api.Errno {
	t.Helper()
	var e api.Errno
	for n := range 4 {
		for _, keep := range [][]int{nil, {3, 30, 3, 30, 3}, {99, 0, 1, 99}, {9999, 9999, 9999, 9999, 9999, 9999}} {
			e = compareOpen(t, fresh, func(d *fs.Disk) { d.Fuse(fuse) }, func(d *fs.Disk) { d.Crash(n, keep) })
		}
	}
	return e
}

// TestOpenHowManySteps holds the number of steps against that of the words, in a table.
func TestOpenHowManySteps(t *testing.T) {
	for _, c := range []struct{ tables, steps int }{
		{0, 10}, {1, 10}, {4, 10}, {5, 11}, {8, 11}, {9, 12}, {120, 39}, // one to remove
	} {
		for fuse := c.steps - 1; fuse <= c.steps; fuse++ {
			d := fs.New()
			checkAdd(t, open(t, d), tables(c.tables), api.OK)
			d.Fuse(fuse)
			if _, e := Open(d); (e == api.OK) != (fuse == c.steps) {
				t.Errorf("%d tables, fuse %d: %d", c.tables, fuse, e)
			}
		}
	}
}

func TestOpenOnAFullDisk(t *testing.T) {
	for name, fresh := range setups() {
		t.Run(name, func(t *testing.T) {
			was := fresh(t).Size()
			for quota := max(0, was-2); ; quota++ {
				e := compareOpen(t, fresh, func(d *fs.Disk) { d.Quota(quota) }, func(d *fs.Disk) { d.Crash(quota%4, nil) })
				if e == api.OK {
					break
				}
				if e != api.ErrFull || quota > was+9000 {
					t.Fatalf("quota %d: %d", quota, e)
				}
			}
		})
	}
}

func TestOpenAmongManyNames(t *testing.T) {
	for _, tmp := range []bool{false, true} {
		for others := 55; others <= 60; others++ {
			fresh := func(t *testing.T) *fs.Disk {
				d := fs.New()
				for i := range others {
					if i == 0 && tmp {
						lay(t, d, "cur.tmp", "x")
					} else {
						lay(t, d, fmt.Sprintf("tab.%d", i), "x")
					}
				}
				return d
			}
			e := compareOpen(t, fresh, func(*fs.Disk) {}, func(*fs.Disk) {})
			want := api.OK
			if others > 59 || others > 58 && !tmp {
				want = api.ErrMany
			}
			if e != want {
				t.Errorf("%d names, %v: %d, not %d", others, tmp, e, want)
			}
		}
	}
}

// Each part has the three numbers, and all but the last one four tables.
func TestOpenParts(t *testing.T) {
	for n := range 121 {
		d := fs.New()
		k := open(t, d)
		checkAdd(t, k, tables(n), api.OK)
		k = open(t, d)
		got, _ := d.Read(Name(k.Number()))
		want := partsByWords(k.Version())
		if got != strings.Join(want, "") || len(want) != max(1, (n+3)/4) {
			t.Errorf("%d tables: %q, not %q", n, got, want)
		}
		checkRead(t, d, apply(t, level.New(), tables(n)), 2)
	}
}

// The longest edit that may be is opened, though a whole version has more bytes than a frame may.
func TestOpenAVersionAboveAFrame(t *testing.T) {
	d := fs.New()
	k := open(t, d)
	v := level.New()
	for l := range api.Levels {
		x := api.Edit{Next: top, Log: top, Seq: top}
		for i := range api.MaxMetas {
			s := fmt.Sprintf("%02d", i) + strings.Repeat("\xff", 98)
			x.New[l] = append(x.New[l], api.Meta{File: top - 1 - uint64(l*30+i), Size: top, First: s, Last: s, Seq: top})
		}
		checkAdd(t, k, x, api.OK)
		v = apply(t, v, x)
	}
	if len(editByWords(v.Edit())) <= api.MaxFrame {
		t.Fatal("it has room")
	}
	checkManifest(t, k, v, 1, false)
	checkManifest(t, open(t, d), v, 2, false)
	checkRead(t, d, v, 2)
}

func TestOpenOnADeadDisk(t *testing.T) {
	d := fs.New()
	k := open(t, d)
	checkAdd(t, k, tables(3), api.OK)
	d.Fuse(0)
	d.SyncDir()
	was := state(d)
	checkNoOpen(t, d, api.ErrDown)
	checkState(t, d, was)
	checkRead(t, d, k.Version(), 1)
}

// P13.4: Add.

func TestAdd(t *testing.T) {
	d := fs.New()
	k := open(t, d)
	v := level.New()
	file, _ := d.Read("man.1")
	for _, x := range []api.Edit{
		tables(6),
		{},
		{Gone: []uint64{2, 5}, Log: 4},
		{Gone: []uint64{1}, New: at(0, m(1, "x", "y"))},
		{New: at(2, m(9, "x", "y"), m(8, "v", "w")), Next: 30, Seq: 8},
		{Next: top, Log: top, Seq: top},
	} {
		checkAdd(t, k, x, api.OK)
		v = apply(t, v, x)
		file += frameByWords(editByWords(x))
		checkManifest(t, k, v, 1, false)
		checkState(t, d, fmt.Sprintf("%q, loose 0, 0, dead false", []string{"current", "man.1", "man.1", file}))
		checkRead(t, d, v, 1)
	}
	checkManifest(t, open(t, d), v, 2, false)
}

func TestAddTheExample(t *testing.T) {
	d := fs.New()
	checkAdd(t, open(t, d), api.Edit{Next: 5}, api.OK)
	k := open(t, d)
	checkManifest(t, k, apply(t, level.New(), api.Edit{Next: 5}), 2, false)
}

// wrongEdits are edits that a version of six tables refuses, and why.
func wrongEdits() map[api.Errno][]api.Edit {
	many := api.Edit{Next: 100}
	for i := range 30 {
		many.New[0] = append(many.New[0], m(uint64(40+i), "a", "b"))
	}
	return map[api.Errno][]api.Edit{
		api.ErrForm:  {{New: at(0, m(0, "a", "b"))}, {New: at(1, m(9, "b", "a"))}, {New: at(3, m(9, "", "a"))}, {New: at(0, m(top+1, "a", "a")), Gone: []uint64{99}, Next: 1}},
		api.ErrNone:  {{Gone: []uint64{7}}, {Gone: []uint64{0}}, {Gone: []uint64{2, 2}}, {Gone: []uint64{math.MaxUint64}}, {Gone: make([]uint64, 200)}},
		api.ErrTwice: {tables(6), {New: at(0, m(6, "a", "b"))}, {New: at(0, m(8, "a", "b"), m(8, "c", "d")), Next: 9}},
		api.ErrRange: {{Next: 6}, {Next: top + 1}, {Log: 1}, {Seq: 2}, {Seq: math.MaxUint64}, {New: at(0, m(7, "a", "b"))}, {New: at(0, api.Meta{File: 8, Size: 1, First: "a", Last: "b", Seq: 4}), Next: 9}},
		api.ErrMany:  {many},
		api.ErrArg:   {{New: at(1, m(8, "a", "z")), Next: 9}, {New: at(2, m(8, "k002", "k002")), Next: 9}, {New: at(3, m(8, "a", "b"), m(9, "b", "c")), Next: 10}},
	}
}

func TestAddWhatCannotBeApplied(t *testing.T) {
	d := fs.New()
	k := open(t, d)
	checkAdd(t, k, tables(6), api.OK)
	v := apply(t, level.New(), tables(6))
	d.Fuse(2)
	was := state(d)
	for want, edits := range wrongEdits() {
		for _, x := range edits {
			checkAdd(t, k, x, want)
			checkManifest(t, k, v, 1, false)
			checkState(t, d, was)
		}
	}
	checkAdd(t, k, api.Edit{Gone: []uint64{6}}, api.OK) // nothing was burned
	checkAdd(t, k, api.Edit{Gone: []uint64{5}}, api.ErrDown)
	checkRead(t, d, apply(t, v, api.Edit{Gone: []uint64{6}}), 1)
}

func TestAddWhatCannotBeAppliedOnAFullDisk(t *testing.T) {
	d := fs.New()
	k := open(t, d)
	checkAdd(t, k, tables(6), api.OK)
	d.Quota(0)
	d.Fuse(0)
	for want, edits := range wrongEdits() {
		for _, x := range edits {
			checkAdd(t, k, x, want) // that is told ahead of what the disk tells
		}
	}
	checkManifest(t, k, apply(t, level.New(), tables(6)), 1, false)
}

func TestAddSize(t *testing.T) {
	for _, size := range []int{7990, 7999, api.MaxFrame, api.MaxFrame + 1, api.MaxFrame + 2, 9000, 12000} {
		d := fs.New()
		k := open(t, d)
		d.Fuse(2)
		x := sized(t, size)
		was := state(d)
		if size <= api.MaxFrame {
			checkAdd(t, k, x, api.OK)
			checkManifest(t, k, apply(t, level.New(), x), 1, false)
			checkRead(t, d, apply(t, level.New(), x), 1)
			continue
		}
		apply(t, level.New(), x) // it could be applied
		checkAdd(t, k, x, api.ErrSize)
		checkManifest(t, k, level.New(), 1, false)
		checkState(t, d, was)
		d.Quota(0)
		checkAdd(t, k, x, api.ErrSize)
		d.Quota(1 << 20)
		checkAdd(t, k, tables(1), api.OK)
		checkRead(t, d, apply(t, level.New(), tables(1)), 1)
	}
}

func TestAddOnAFullDisk(t *testing.T) {
	d := fs.New()
	k := open(t, d)
	checkAdd(t, k, tables(6), api.OK)
	v := apply(t, level.New(), tables(6))
	small, great := api.Edit{Gone: []uint64{1}}, api.Edit{Gone: []uint64{2, 3}}
	d.Quota(d.Size() + len(frameByWords(editByWords(small))))
	was := state(d)
	for range 3 {
		checkAdd(t, k, great, api.ErrFull)
		checkManifest(t, k, v, 1, false)
		checkState(t, d, was)
	}
	checkAdd(t, k, small, api.OK) // what has room goes on, up to the last byte
	v = apply(t, v, small)
	checkManifest(t, k, v, 1, false)
	checkAdd(t, k, api.Edit{}, api.ErrFull)
	checkRead(t, d, v, 1)
	d.Quota(1 << 20)
	checkAdd(t, k, great, api.OK)
	v = apply(t, v, great)
	checkManifest(t, k, v, 1, false)
	checkRead(t, d, v, 1)
}

func TestAddOnAFullDiskThatIsDead(t *testing.T) {
	d := fs.New()
	k := open(t, d)
	d.Fuse(0)
	d.SyncDir()
	d.Quota(0)
	checkAdd(t, k, tables(1), api.ErrFull) // the disk sees that it is full ahead of all else
	checkManifest(t, k, level.New(), 1, false)
	d.Quota(1 << 20)
	checkAdd(t, k, tables(1), api.ErrDown)
	checkManifest(t, k, level.New(), 1, true)
}

func TestAddOnADiskThatDies(t *testing.T) {
	s := frameByWords(editByWords(tables(2)))
	for fuse := range 2 {
		d := fs.New()
		k := open(t, d)
		file, _ := d.Read("man.1")
		d.Fuse(fuse)
		checkAdd(t, k, tables(2), api.ErrDown)
		checkManifest(t, k, level.New(), 1, true)
		laid := s[:len(s)*fuse]
		checkState(t, d, fmt.Sprintf("%q, loose 0, %d, dead true", []string{"current", "man.1", "man.1", file + laid}, len(laid)))
	}
}

func TestAddWhenItIsBroken(t *testing.T) {
	d := fs.New()
	k := open(t, d)
	checkAdd(t, k, tables(6), api.OK)
	v := k.Version()
	d.Fuse(1)
	checkAdd(t, k, api.Edit{Gone: []uint64{1}}, api.ErrDown)
	d.Crash(0, []int{0, 2})
	was := state(d)
	for _, edits := range wrongEdits() {
		for _, x := range edits {
			checkAdd(t, k, x, api.ErrDown) // broken stays broken, and is told first
		}
	}
	checkAdd(t, k, sized(t, 9000), api.ErrDown)
	checkAdd(t, k, api.Edit{}, api.ErrDown)
	d.Quota(0)
	checkAdd(t, k, api.Edit{}, api.ErrDown)
	checkManifest(t, k, v, 1, true)
	checkState(t, d, was)
	d.Fuse(1)
	checkAdd(t, k, api.Edit{}, api.ErrDown)
	if d.SyncDir() != api.OK { // nothing was burned
		t.Error("the fuse")
	}
	checkRead(t, d, v, 1)
}

func TestAddWhenTheFileIsGone(t *testing.T) {
	d := fs.New()
	k := open(t, d)
	checkAdd(t, k, tables(2), api.OK)
	v := k.Version()
	later := open(t, d)
	checkAdd(t, k, api.Edit{Gone: []uint64{1}}, api.ErrNone)
	checkManifest(t, k, v, 1, true)
	checkAdd(t, k, api.Edit{Gone: []uint64{1}}, api.ErrDown)
	checkAdd(t, later, api.Edit{Gone: []uint64{2}}, api.OK) // what one was told breaks no other
	checkManifest(t, later, apply(t, v, api.Edit{Gone: []uint64{2}}), 2, false)
	checkManifest(t, k, v, 1, true)
}

func TestAddBehindACrashThatItNeverSaw(t *testing.T) {
	d := fs.New()
	k := open(t, d)
	checkAdd(t, k, tables(3), api.OK)
	d.Crash(0, nil)
	checkAdd(t, k, api.Edit{Gone: []uint64{3}}, api.OK)
	checkManifest(t, k, apply(t, level.New(), tables(3), api.Edit{Gone: []uint64{3}}), 1, false)
	checkRead(t, d, k.Version(), 1)
}

func TestAddBurnsTwice(t *testing.T) {
	d := fs.New()
	k := open(t, d)
	d.Fuse(4)
	checkAdd(t, k, tables(2), api.OK)
	checkAdd(t, k, api.Edit{Gone: []uint64{1}}, api.OK)
	if e := d.SyncDir(); e != api.ErrDown {
		t.Error(e)
	}
	if k.Broken() { // that error wasn't told to it
		t.Error("broken")
	}
	checkAdd(t, k, api.Edit{}, api.ErrDown)
	if !k.Broken() {
		t.Error("not broken")
	}
}

// R3 to R5: nothing is shared, nothing is kept but by pointers.

func TestNothingIsShared(t *testing.T) {
	d := fs.New()
	k := open(t, d)
	checkAdd(t, k, tables(6), api.OK)
	x := api.Edit{Gone: []uint64{1}, New: at(0, m(8, "a", "b"), m(7, "c", "d")), Next: 9}
	v := apply(t, k.Version(), x)
	was := k.Version()
	checkAdd(t, k, x, api.OK)
	if x.Gone[0] != 1 || x.New[0][0].File != 8 || x.New[0][1].File != 7 {
		t.Errorf("%v", x)
	}
	x.Gone[0], x.New[0][0], x.New[0][1] = 5, m(99, "x", "y"), m(98, "x", "y")
	list := Numbers(d)
	list[0] = 9
	k.Version().Level(0)[0] = m(77, "x", "y")
	checkManifest(t, k, v, 1, false)
	checkRead(t, d, v, 1)
	checkNumbers(t, d, 1)
	if told(was) != told(apply(t, level.New(), tables(6))) { // the version that was told stays
		t.Errorf("%v", was.Edit())
	}
}

func TestManifestsOnTwoDisks(t *testing.T) {
	a, b := fs.New(), fs.New()
	k, l := open(t, a), open(t, b)
	checkAdd(t, k, tables(2), api.OK)
	checkAdd(t, l, tables(5), api.OK)
	a.Fuse(0)
	checkAdd(t, k, api.Edit{}, api.ErrDown)
	checkAdd(t, l, api.Edit{}, api.OK)
	checkManifest(t, k, apply(t, level.New(), tables(2)), 1, true)
	checkManifest(t, l, apply(t, level.New(), tables(5)), 1, false)
	checkRead(t, a, k.Version(), 1)
	checkRead(t, b, l.Version(), 1)
}
