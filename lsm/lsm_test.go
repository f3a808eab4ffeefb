package lsm

import (
	"fmt"
	"math"
	"slices"
	"strings"
	"testing"

	"scree/api"
	"scree/batch"
	"scree/fs"
	"scree/level"
	"scree/manifest"
	"scree/table"
	"scree/wal"
)

// What follows makes disks and stores, and looks at them.

// open opens a store that must open.
func open(t *testing.T, d *fs.Disk) *DB {
	t.Helper()
	db, e := Open(d)
	if e != api.OK || db == nil {
		t.Fatalf("Open: %v, %d", db, e)
	}
	return db
}

func checkNoOpen(t *testing.T, d *fs.Disk, want api.Errno) {
	t.Helper()
	if db, e := Open(d); db != nil || e != want {
		t.Errorf("Open: %v, %d, not %d", db, e, want)
	}
}

// ops are the operations that a text says: key=value, or -key.
func ops(text string) []api.Op {
	var l []api.Op
	for _, s := range strings.Fields(text) {
		key, value, is := strings.Cut(s, "=")
		if is {
			l = append(l, api.Op{Key: key, Value: value})
		} else {
			l = append(l, api.Op{Del: true, Key: strings.TrimPrefix(key, "-")})
		}
	}
	return l
}

func checkWrite(t *testing.T, db *DB, l []api.Op, want api.Errno) {
	t.Helper()
	if e := db.Write(l, 0); e != want {
		t.Errorf("Write: %d, not %d", e, want)
	}
}

// write writes what a text says.
func write(t *testing.T, db *DB, text string) {
	t.Helper()
	checkWrite(t, db, ops(text), api.OK)
}

// flushed writes what a text says, and flushes.
func flushed(t *testing.T, db *DB, text string) {
	t.Helper()
	write(t, db, text)
	checkOK(t, db.Flush())
}

// fill writes the keys from k plus from up to below k plus to, each in a write of its own.
func fill(t *testing.T, db *DB, from, to int) {
	t.Helper()
	for i := from; i < to; i++ {
		write(t, db, fmt.Sprintf("k%04d=%d", i, i))
	}
}

// filled is what is told of these keys.
func filled(from, to int) string {
	var l []string
	for i := from; i < to; i++ {
		l = append(l, fmt.Sprintf("k%04d=%d", i, i))
	}
	return strings.Join(l, " ")
}

func checkOK(t *testing.T, e api.Errno) {
	t.Helper()
	checkErrno(t, e, api.OK)
}

func checkErrno(t *testing.T, e, want api.Errno) {
	t.Helper()
	if e != want {
		t.Errorf("%d, not %d", e, want)
	}
}

// told tells entries as text: key=value, or -key.
func told(l []api.Entry) string {
	var list []string
	for _, x := range l {
		if x.Del {
			list = append(list, "-"+x.Key)
		} else {
			list = append(list, x.Key+"="+x.Value)
		}
	}
	return strings.Join(list, " ")
}

// checkTold holds all that is read against a text.
func checkTold(t *testing.T, db *DB, want string) {
	t.Helper()
	l := db.Scan("", "")
	if got := told(l); got != want {
		t.Errorf("%q, not %q", got, want)
	}
	for _, x := range l {
		if v, is := db.Get(x.Key); v != x.Value || !is {
			t.Errorf("Get(%q): %q, %v, not %q", x.Key, v, is, x.Value)
		}
	}
}

func checkGet(t *testing.T, db *DB, key, want string, is bool) {
	t.Helper()
	if v, ok := db.Get(key); v != want || ok != is {
		t.Errorf("Get(%q): %q, %v, not %q, %v", key, v, ok, want, is)
	}
}

func checkScan(t *testing.T, db *DB, from, to, want string) {
	t.Helper()
	if got := told(db.Scan(from, to)); got != want {
		t.Errorf("Scan(%q, %q): %q, not %q", from, to, got, want)
	}
}

// levels tells a store's tables as text: each level's in a line, of each its number and its range.
func levels(db *DB) string {
	var lines []string
	for l := range 4 {
		var list []string
		for _, m := range db.Level(l) {
			list = append(list, fmt.Sprintf("%d:%s-%s", m.File, m.First, m.Last))
		}
		lines = append(lines, strings.Join(list, " "))
	}
	return strings.Join(lines, "/")
}

func checkLevels(t *testing.T, db *DB, want string) {
	t.Helper()
	if got := levels(db); got != want {
		t.Errorf("the levels: %q, not %q", got, want)
	}
}

func checkMem(t *testing.T, db *DB, want int) {
	t.Helper()
	if got := db.Mem(); got != want {
		t.Errorf("Mem: %d, not %d", got, want)
	}
}

func checkSeq(t *testing.T, db *DB, want uint64) {
	t.Helper()
	if got := db.Seq(); got != want {
		t.Errorf("Seq: %d, not %d", got, want)
	}
}

func checkStops(t *testing.T, db *DB, down, full bool) {
	t.Helper()
	if db.Down() != down || db.Full() != full {
		t.Errorf("down %v, full %v, not %v, %v", db.Down(), db.Full(), down, full)
	}
}

// checkStopped holds that it does nothing any more.
func checkStopped(t *testing.T, db *DB, d *fs.Disk, want api.Errno) {
	t.Helper()
	was := state(d)
	checkWrite(t, db, ops("z=z"), want)
	checkWrite(t, db, nil, want)
	checkErrno(t, db.Flush(), want)
	checkErrno(t, db.Compact(0, 0, nil), want)
	checkErrno(t, db.Compact(-1, -1, nil), want)
	checkErrno(t, db.Whole(nil), want)
	checkState(t, d, was)
}

func checkState(t *testing.T, d *fs.Disk, want string) {
	t.Helper()
	if got := state(d); got != want {
		t.Errorf("%s, not %s", got, want)
	}
}

func checkFiles(t *testing.T, d *fs.Disk, want string) {
	t.Helper()
	if got := strings.Join(d.List(), " "); got != want {
		t.Errorf("%q, not %q", got, want)
	}
}

// checkNumbers holds the version's numbers on the disk against what they should be.
func checkNumbers(t *testing.T, d *fs.Disk, next, log, seq uint64) {
	t.Helper()
	v, _, e := manifest.Read(d)
	if e != api.OK {
		t.Fatalf("Read: %d", e)
	}
	if a, b, c := v.Numbers(); a != next || b != log || c != seq {
		t.Errorf("Next %d, Log %d, Seq %d, not %d, %d, %d", a, b, c, next, log, seq)
	}
}

// lay makes a file of bytes, that are sure.
func lay(t *testing.T, d *fs.Disk, name, b string) {
	t.Helper()
	for _, e := range []api.Errno{d.Create(name), d.Append(name, b), d.Sync(name), d.SyncDir()} {
		if e != api.OK {
			t.Fatalf("%s: %d", name, e)
		}
	}
}

// layTable makes the file of a table of entries, and tells its meta.
func layTable(t *testing.T, d *fs.Disk, n uint64, l ...api.Entry) api.Meta {
	t.Helper()
	b, e := table.Build(l)
	if e != api.OK {
		t.Fatalf("Build: %d", e)
	}
	lay(t, d, nameByWords(n), b)
	m := api.Meta{File: n, Size: len(b), First: l[0].Key, Last: l[len(l)-1].Key}
	for _, x := range l {
		m.Seq = max(m.Seq, x.Seq)
	}
	return m
}

// layVersion makes a manifest of a version.
func layVersion(t *testing.T, d *fs.Disk, e api.Edit) {
	t.Helper()
	m, f := manifest.Open(d)
	if f != api.OK {
		t.Fatalf("Open: %d", f)
	}
	if f := m.Add(e); f != api.OK {
		t.Fatalf("Add: %d", f)
	}
}

// layLog makes a log of texts.
func layLog(t *testing.T, d *fs.Disk, n uint64, texts ...string) {
	t.Helper()
	l, e := wal.Create(d, n)
	if e != api.OK {
		t.Fatalf("Create: %d", e)
	}
	for _, s := range texts {
		checkOK(t, l.Add(s))
	}
}

// encoded is the bytes of a batch.
func encoded(t *testing.T, seq uint64, text string) string {
	t.Helper()
	s, e := batch.Encode(seq, ops(text))
	if e != api.OK {
		t.Fatalf("Encode: %d", e)
	}
	return s
}

// at brings tables to one level.
func at(l int, list ...api.Meta) [api.Levels][]api.Meta {
	var n [api.Levels][]api.Meta
	n[l] = list
	return n
}

// x is an entry with a value.
func x(key string, seq uint64, value string) api.Entry {
	return api.Entry{Key: key, Seq: seq, Value: value}
}

// gone is an entry that was taken away.
func gone(key string, seq uint64) api.Entry { return api.Entry{Key: key, Seq: seq, Del: true} }

// P14.1: names.

func TestName(t *testing.T) {
	for n, want := range map[uint64]string{
		0:              "",
		1:              "tab.1",
		9:              "tab.9",
		10:             "tab.10",
		305:            "tab.305",
		top - 1:        "tab.1099511627775",
		top:            "tab.1099511627776",
		top + 1:        "",
		1 << 41:        "",
		1 << 63:        "",
		math.MaxUint64: "",
	} {
		if got := Name(n); got != want {
			t.Errorf("%d: %q, not %q", n, got, want)
		}
	}
	for _, n := range []uint64{1, 7, top} {
		if !fs.May(Name(n)) {
			t.Errorf("%q may not be a file's name", Name(n))
		}
	}
}

func TestTheConstants(t *testing.T) {
	if PerTable != 100 || MaxTop != 12 || MaxMem != 200 {
		t.Errorf("%d, %d, %d", PerTable, MaxTop, MaxMem)
	}
}

// P14.1: Open.

func TestOpenOfNoDisk(t *testing.T) { checkNoOpen(t, nil, api.ErrArg) }

func TestOpenOfAnEmptyDisk(t *testing.T) {
	d := fs.New()
	db := open(t, d)
	checkFiles(t, d, "current man.1 wal.1")
	checkNumbers(t, d, 2, 1, 0)
	checkTold(t, db, "")
	checkGet(t, db, "a", "", false)
	checkLevels(t, db, "///")
	checkSeq(t, db, 0)
	checkMem(t, db, 0)
	checkStops(t, db, false, false)
	d.Crash(0, nil)
	checkFiles(t, d, "current man.1 wal.1")
}

func TestOpenTellsTheManifestsError(t *testing.T) {
	d := fs.New()
	lay(t, d, "current", "man.x")
	lay(t, d, "tab.5", "x")
	was := state(d)
	checkNoOpen(t, d, api.ErrForm)
	checkState(t, d, was)
	d = fs.New()
	d.Fuse(0)
	checkNoOpen(t, d, api.ErrDown)
	d = fs.New()
	d.Quota(0)
	checkNoOpen(t, d, api.ErrFull)
}

// TestOpenRemovesTablesOfNobody, and nothing that is named otherwise.
func TestOpenRemovesTablesOfNobody(t *testing.T) {
	d := fs.New()
	flushed(t, open(t, d), "a=1")
	others := []string{"tab.", "tab.0", "tab.00", "tab.01", "tab.007", "tab.x", "tab.1x", "tab.x1", "tab..1", "tab.1.", "tab.1.2", "tab1", "tab", "atab.1", "tab.0x1", "tab.1099511627777", "tab.9999999999999999", "sst.1", "man", "wal"}
	for _, name := range slices.Concat(others, []string{"tab.1", "tab.2", "tab.4", "tab.33", "tab.999", "tab.1099511627776", "tab.1099511627775"}) {
		checkOK(t, d.Create(name))
	}
	db := open(t, d)
	for _, name := range slices.Concat(others, []string{"tab.3", "current", "man.2", "wal.4"}) {
		if !slices.Contains(d.List(), name) {
			t.Errorf("%q is gone", name)
		}
	}
	if n := len(d.List()); n != len(others)+4 {
		t.Errorf("%v", d.List())
	}
	checkTold(t, db, "a=1")
}

// TestOpenRemovesInOrder lets the disk die behind each of the removals.
func TestOpenRemovesInOrder(t *testing.T) {
	names := []string{"tab.10", "tab.2", "tab.30", "tab.4"}
	first := 0 // so many changes stand ahead of the first removal
	for {
		d := fs.New()
		d.Fuse(first)
		if _, e := manifest.Open(d); e == api.OK {
			break
		}
		first++
	}
	for n := range len(names) + 1 {
		d := fs.New()
		for _, name := range []string{"tab.4", "tab.30", "tab.2", "tab.10"} {
			checkOK(t, d.Create(name))
		}
		d.Fuse(first + n)
		checkNoOpen(t, d, api.ErrDown)
		checkFiles(t, d, strings.Join(append([]string{"current", "man.1"}, names[n:]...), " "))
	}
}

func TestOpenReadsTheTables(t *testing.T) {
	d := fs.New()
	e := api.Edit{Next: 10, Log: 4, Seq: 20}
	e.New[0] = []api.Meta{layTable(t, d, 8, x("a", 9, "8"), gone("c", 10)), layTable(t, d, 9, x("b", 20, "9"))}
	e.New[1] = []api.Meta{layTable(t, d, 3, x("a", 3, "3"), x("c", 2, "3"))}
	e.New[3] = []api.Meta{layTable(t, d, 2, x("d", 1, "2"))}
	layVersion(t, d, e)
	db := open(t, d)
	checkTold(t, db, "a=8 b=9 d=2")
	checkLevels(t, db, "9:b-b 8:a-c/3:a-c//2:d-d")
	checkSeq(t, db, 20)
	checkNumbers(t, d, 11, 10, 20)
	checkFiles(t, d, "current man.2 tab.2 tab.3 tab.8 tab.9 wal.10")
}

// TestOpenOfWrongTables: what isn't the version's is removed all the same, for that is done ahead.
func TestOpenOfWrongTables(t *testing.T) {
	good, _ := table.Build([]api.Entry{x("a", 1, "1")})
	for name, b := range map[string]string{"no file": "-", "no bytes": "", "a byte less": good[1:], "a byte more": good + "1", "other bytes": "scree001", "a cut end": good[:len(good)-1]} {
		d := fs.New()
		e := api.Edit{Next: 10, Seq: 20, New: at(2, api.Meta{File: 5, Size: len(good), First: "a", Last: "a", Seq: 1}, layTable(t, d, 4, x("b", 1, "")))}
		if b != "-" {
			lay(t, d, "tab.5", b)
		}
		layVersion(t, d, e)
		lay(t, d, "tab.7", "")
		if db, f := Open(d); db != nil || f != api.ErrForm {
			t.Errorf("%s: %v, %d", name, db, f)
		}
		if slices.Contains(d.List(), "tab.7") || !slices.Contains(d.List(), "tab.4") {
			t.Errorf("%s: %v", name, d.List())
		}
	}
}

func TestOpenReplays(t *testing.T) {
	d := fs.New()
	layVersion(t, d, api.Edit{Next: 10, Log: 4, Seq: 20, New: at(1, layTable(t, d, 3, x("a", 19, "t"), x("b", 20, "t"), x("c", 2, "t")))})
	layLog(t, d, 2, "no batch", encoded(t, 90, "e=no"))
	layLog(t, d, 3, encoded(t, 30, "a=no"), encoded(t, 30, "a=no"))
	layLog(t, d, 4, encoded(t, 19, "a=4 b=4 c=4"), encoded(t, 22, "-b"))
	layLog(t, d, 7, encoded(t, 31, "d=7 e=7"), encoded(t, 25, "d=8"), encoded(t, 3, "x=x"))
	checkOK(t, d.Append("wal.7", "\x05cut")) // it was being laid
	db := open(t, d)
	checkTold(t, db, "a=t c=4 d=7 e=7")
	checkSeq(t, db, 32)
	checkMem(t, db, 0)
	checkLevels(t, db, "11:b-e/3:a-c//")
	checkNumbers(t, d, 12, 10, 32)
	checkFiles(t, d, "current man.2 tab.11 tab.3 wal.10")
	if m := db.Level(0)[0]; m.Seq != 32 {
		t.Errorf("%v", m)
	}
}

// The texts of all logs count, and each of their operations.
func TestOpenOfWrongLogs(t *testing.T) {
	for name, texts := range map[string][]string{
		"no batch":          {encoded(t, 21, "a=1"), "x"},
		"no bytes":          {""},
		"a batch and more":  {encoded(t, 21, "a=1") + "x"},
		"a batch of none":   {"\x01\x00"},
		"twice":             {encoded(t, 21, "a=1"), encoded(t, 21, "a=1")},
		"twice within":      {encoded(t, 21, "a=1 b=1 c=1"), encoded(t, 22, "a=1 -c")},
		"right":             {encoded(t, 21, "a=1 b=1 c=1"), encoded(t, 22, "a=1 -b"), encoded(t, 20, "a=1 b=2 -c")},
		"given and gone":    {encoded(t, 21, "a=1"), encoded(t, 21, "-a")},
		"below and no such": {encoded(t, 5, "a=1"), "\x05"},
	} {
		for _, split := range []bool{false, true} {
			d := fs.New()
			layVersion(t, d, api.Edit{Next: 10, Log: 4, Seq: 20})
			lay(t, d, "tab.3", "")
			if split {
				layLog(t, d, 5, texts[:len(texts)-1]...)
				layLog(t, d, 6, texts[len(texts)-1])
			} else {
				layLog(t, d, 4, texts...)
			}
			if db, e := Open(d); (e == api.OK) != (name == "right") || e != api.OK && (e != api.ErrForm || db != nil) {
				t.Errorf("%s: %v, %d", name, db, e)
			}
			if slices.Contains(d.List(), "tab.3") {
				t.Errorf("%s: %v", name, d.List())
			}
		}
	}
}

// Two of one key and number are none of Open's business, if a table has them.
func TestOpenOfTheSameBelow(t *testing.T) {
	d := fs.New()
	layVersion(t, d, api.Edit{Next: 10, Log: 4, Seq: 20})
	layLog(t, d, 4, encoded(t, 20, "a=1"), encoded(t, 20, "a=2 b=2"))
	db := open(t, d)
	checkTold(t, db, "b=2")
	checkSeq(t, db, 21)
}

// Numbers that a log tells and the version hasn't given out are taken, too.
func TestOpenTakesNumbers(t *testing.T) {
	for _, c := range []struct {
		next uint64
		logs []uint64
		want uint64
	}{
		{1, nil, 1},
		{9, nil, 9},
		{9, []uint64{3}, 9},
		{9, []uint64{8}, 9},
		{9, []uint64{9}, 10},
		{9, []uint64{0, 3, 50}, 51},
		{9, []uint64{100, 99}, 101},
		{1, []uint64{0}, 1},
		{top - 1, []uint64{5}, top - 1},
		{5, []uint64{top - 2}, top - 1},
	} {
		d := fs.New()
		layVersion(t, d, api.Edit{Next: c.next})
		for _, n := range c.logs {
			layLog(t, d, n)
		}
		db := open(t, d)
		if got := wal.Numbers(d); !slices.Equal(got, []uint64{c.want}) {
			t.Errorf("%v: %v, not %d", c, got, c.want)
		}
		checkNumbers(t, d, c.want+1, c.want, 0)
		if c.want < top-3 {
			flushed(t, db, "a=1")
			checkLevels(t, db, fmt.Sprintf("%d:a-a///", c.want+2))
		}
	}
}

// TestOpenWhereNumbersEnd: there is no number behind MaxTime.
func TestOpenWhereNumbersEnd(t *testing.T) {
	d := fs.New()
	layVersion(t, d, api.Edit{Next: top})
	checkNoOpen(t, d, api.ErrRange) // it would be the log's, and Next is behind it
	d = fs.New()
	layLog(t, d, top)
	checkNoOpen(t, d, api.ErrArg)
	d = fs.New()
	layVersion(t, d, api.Edit{Next: top - 1})
	layLog(t, d, 1, encoded(t, 1, "a=1"))
	checkNoOpen(t, d, api.ErrRange)
	d = fs.New()
	layVersion(t, d, api.Edit{Next: top})
	layLog(t, d, 1, encoded(t, 1, "a=1"))
	checkNoOpen(t, d, api.ErrKey) // the table has no name
	d = fs.New()
	layVersion(t, d, api.Edit{Next: 5, Log: 50})
	checkNoOpen(t, d, api.ErrRange)
}

// TestOpenWritesRows: the last row is written first.
func TestOpenWritesRows(t *testing.T) {
	for _, c := range []struct {
		n    int
		want string
	}{
		{0, "///"},
		{1, "3:k0000-k0000///"},
		{100, "3:k0000-k0099///"},
		{101, "4:k0000-k0099 3:k0100-k0100///"},
		{200, "4:k0000-k0099 3:k0100-k0199///"},
		{201, "5:k0000-k0099 4:k0100-k0199 3:k0200-k0200///"},
		{250, "5:k0000-k0099 4:k0100-k0199 3:k0200-k0249///"},
	} {
		d := fs.New()
		var texts []string
		for i := c.n - 1; i >= 0; i-- {
			texts = append(texts, encoded(t, uint64(i)+1, filled(i, i+1)))
		}
		layLog(t, d, 1, texts...)
		db := open(t, d)
		checkLevels(t, db, c.want)
		checkTold(t, db, filled(0, c.n))
		checkSeq(t, db, uint64(c.n))
		checkNumbers(t, d, 3+uint64((c.n+99)/100), 2, uint64(c.n))
		for _, m := range db.Level(0) {
			b, _ := d.Read(Name(m.File))
			if m.Size != len(b) || m.First != fmt.Sprintf("k%04d", m.Seq-uint64(db.tables[m.File].Len())) {
				t.Errorf("%v, %d", m, len(b))
			}
		}
		d.Crash(0, nil)
		checkTold(t, open(t, d), filled(0, c.n))
	}
}

// TestOpenWritesTheNewest of each key, and what was taken away, too.
func TestOpenWritesTheNewest(t *testing.T) {
	d := fs.New()
	layLog(t, d, 1, encoded(t, 1, "a=1 b=1 -a c=1 b=2 c=2 -c"))
	db := open(t, d)
	if l := db.tables[3].All(); told(l) != "-a b=2 -c" {
		t.Errorf("%v", l)
	}
	checkTold(t, db, "b=2")
}

func TestOpenMakesRoomAtTheTop(t *testing.T) {
	for n := 10; n <= 14; n++ {
		for _, apart := range []bool{false, true} {
			d := fs.New()
			e := api.Edit{Next: 50, Seq: 50}
			for i := range n {
				key := "k"
				if apart {
					key = fmt.Sprintf("k%02d", i)
				}
				e.New[0] = append(e.New[0], layTable(t, d, uint64(i)+1, x(key, uint64(i)+1, "x")))
			}
			layVersion(t, d, e)
			db := open(t, d)
			tops, next := min(n, 11), n-11
			if !apart && n >= 12 {
				tops, next = 0, 1
			}
			if len(db.Level(0)) != tops || len(db.Level(1)) != max(next, 0) {
				t.Errorf("%d, %v: %s", n, apart, levels(db))
			}
			checkNumbers(t, d, 51+uint64(max(next, 0)), 50+uint64(max(next, 0)), 50)
			if apart && n == 13 {
				checkLevels(t, db, "11:k10-k10 10:k09-k09 9:k08-k08 8:k07-k07 7:k06-k06 6:k05-k05 5:k04-k04 4:k03-k03 3:k02-k02 2:k01-k01 1:k00-k00/51:k11-k11 50:k12-k12//")
			}
		}
	}
}

// TestOpenOfAFullNextLevel: the error of the room that isn't made is Open's.
func TestOpenOfAFullNextLevel(t *testing.T) {
	d := fs.New()
	e := api.Edit{Next: 90, Seq: 50}
	for i := range 12 {
		e.New[0] = append(e.New[0], layTable(t, d, uint64(i)+1, x(fmt.Sprintf("k%02d", i), 1, "x")))
	}
	for i := range 30 {
		e.New[1] = append(e.New[1], layTable(t, d, uint64(i)+20, x(fmt.Sprintf("l%02d", i), 1, "x")))
	}
	layVersion(t, d, e)
	checkNoOpen(t, d, api.ErrMany)
	if l := d.List(); slices.Contains(l, "wal.90") || slices.Contains(l, "wal.91") || !slices.Contains(l, "tab.90") {
		t.Errorf("%v", l)
	}
}

// TestOpenRemovesLogsInOrder lets the disk die behind each of the removals, of which the numbers' order isn't that of names.
func TestOpenRemovesLogsInOrder(t *testing.T) {
	logs := []uint64{0, 2, 10, 30}
	build := func() *fs.Disk {
		d := fs.New()
		layVersion(t, d, api.Edit{Next: 7, Log: 2})
		for _, n := range []uint64{30, 2, 10, 0} {
			layLog(t, d, n)
		}
		return d
	}
	last := 0
	for {
		d := build()
		d.Fuse(last)
		if _, e := Open(d); e == api.OK {
			break
		}
		last++
	}
	for n := range len(logs) {
		d := build()
		d.Fuse(last - len(logs) + n)
		checkNoOpen(t, d, api.ErrDown)
		if got := wal.Numbers(d); !slices.Equal(got, append(slices.Clone(logs[n:]), 31)) {
			t.Errorf("%d: %v", n, got)
		}
		checkNumbers(t, d, 32, 31, 0)
	}
}

// P14.2: Write.

func TestWrite(t *testing.T) {
	d := fs.New()
	db := open(t, d)
	write(t, db, "a=1 b=1 a=2 -b c=3")
	checkTold(t, db, "a=2 c=3")
	checkMem(t, db, 5)
	checkSeq(t, db, 5)
	write(t, db, "b=4")
	checkTold(t, db, "a=2 b=4 c=3")
	checkMem(t, db, 6)
	checkSeq(t, db, 6)
	if texts, e := wal.Replay(d, 1); e != api.OK || !slices.Equal(texts, []string{encoded(t, 1, "a=1 b=1 a=2 -b c=3"), encoded(t, 6, "b=4")}) {
		t.Errorf("%q, %d", texts, e)
	}
	if changes, size := d.Loose(); changes+size != 0 {
		t.Errorf("%d, %d aren't sure", changes, size)
	}
}

func TestWriteOfNoBatch(t *testing.T) {
	d := fs.New()
	db := open(t, d)
	write(t, db, "a=1")
	was := state(d)
	long := strings.Repeat("x", 101)
	for _, l := range [][]api.Op{
		nil,
		{},
		{{}},
		{{Key: "b"}, {Key: ""}},
		{{Key: long}},
		{{Key: "b", Value: long}},
		{{Del: true, Key: "b", Value: "x"}},
		make([]api.Op, 17),
		slices.Repeat([]api.Op{{Key: "b"}}, 17),
	} {
		checkWrite(t, db, l, api.ErrForm)
	}
	checkState(t, d, was)
	checkTold(t, db, "a=1")
	checkSeq(t, db, 1)
	checkStops(t, db, false, false)
	checkWrite(t, db, []api.Op{{Key: long[1:], Value: long[1:]}}, api.OK)
	checkWrite(t, db, slices.Repeat([]api.Op{{Key: "b"}}, 16), api.OK)
}

// TestWriteWhereNumbersEnd: the last operation's number is MaxTime.
func TestWriteWhereNumbersEnd(t *testing.T) {
	d := fs.New()
	layVersion(t, d, api.Edit{Seq: top - 3})
	db := open(t, d)
	checkSeq(t, db, top-3)
	checkWrite(t, db, ops("a=1 b=1 c=1 d=1"), api.ErrRange)
	checkWrite(t, db, []api.Op{{}}, api.ErrForm)
	write(t, db, "a=1 b=1")
	checkWrite(t, db, ops("c=1 d=1"), api.ErrRange)
	checkSeq(t, db, top-1)
	write(t, db, "c=1")
	checkSeq(t, db, top)
	checkWrite(t, db, ops("d=1"), api.ErrRange)
	checkOK(t, db.Flush())
	checkOK(t, db.Whole(nil))
	checkWrite(t, db, ops("d=1"), api.ErrRange)
	checkTold(t, db, "a=1 b=1 c=1")
	checkStops(t, db, false, false)
	db = open(t, d)
	checkTold(t, db, "a=1 b=1 c=1")
	checkSeq(t, db, top)
}

// The newest is told by MaxTime, as by any other number.
func TestTheNewestWhereNumbersEnd(t *testing.T) {
	build := func() *DB {
		d := fs.New()
		layVersion(t, d, api.Edit{Seq: top - 3})
		db := open(t, d)
		write(t, db, "a=1 b=1")
		return db
	}
	db := build()
	flushed(t, db, "a=2")
	if l := db.tables[3].All(); !slices.Equal(l, []api.Entry{x("a", top, "2"), x("b", top-1, "1")}) {
		t.Errorf("%v", l)
	}
	for _, merge := range []func(db *DB) api.Errno{
		func(db *DB) api.Errno { return db.Compact(0, 0, nil) },
		func(db *DB) api.Errno { return db.Whole(nil) },
	} {
		db := build()
		checkOK(t, db.Flush())
		flushed(t, db, "a=2")
		checkOK(t, merge(db))
		if l := db.tables[6].All(); !slices.Equal(l, []api.Entry{x("a", top, "2"), x("b", top-1, "1")}) {
			t.Errorf("%v", l)
		}
	}
}

// TestCoins: three bits an operation, and what is above them counts for nothing.
func TestCoins(t *testing.T) {
	for _, c := range []struct {
		coins uint64
		want  []int
	}{
		{0, []int{1, 1, 1, 1}},
		{1, []int{2, 1, 1, 1}},
		{7, []int{8, 1, 1, 1}},
		{8, []int{1, 2, 1, 1}},
		{0o3210, []int{1, 2, 3, 4}},
		{0o7654, []int{5, 6, 7, 8}},
		{0o71111, []int{2, 2, 2, 2}},
		{math.MaxUint64, []int{8, 8, 8, 8}},
	} {
		db := open(t, fs.New())
		if e := db.Write(ops("a=1 b=1 c=1 d=1"), c.coins); e != api.OK {
			t.Fatal(e)
		}
		if got := db.mem.Towers(); !slices.Equal(got, c.want) {
			t.Errorf("%o: %v, not %v", c.coins, got, c.want)
		}
	}
}

func TestCoinsOfTheLastOperation(t *testing.T) {
	db := open(t, fs.New())
	var l []api.Op
	var want []int
	coins := uint64(0)
	for i := range 16 {
		l = append(l, api.Op{Key: fmt.Sprintf("k%02d", i)})
		want = append(want, i*5%8+1)
		coins |= uint64(i*5%8) << (3 * i)
	}
	checkOK(t, db.Write(l, coins))
	if got := db.mem.Towers(); !slices.Equal(got, want) {
		t.Errorf("%v, not %v", got, want)
	}
	checkOK(t, db.Write(l[:1], 3)) // each write begins at the first bits
	if got := db.mem.Towers(); got[0] != 4 {
		t.Errorf("%v", got)
	}
}

// TestWriteWhereMemoryEnds: 200 entries have room, whatever keys they have.
func TestWriteWhereMemoryEnds(t *testing.T) {
	for _, size := range []int{1, 2, 15, 16} {
		for n := 180; n <= 200; n++ {
			d := fs.New()
			db := open(t, d)
			for i := range n {
				write(t, db, fmt.Sprintf("k%d=%d", i%7, i))
			}
			checkMem(t, db, n)
			checkLevels(t, db, "///")
			checkWrite(t, db, slices.Repeat([]api.Op{{Key: "z"}}, size), api.OK)
			checkSeq(t, db, uint64(n+size))
			if n+size <= 200 {
				checkMem(t, db, n+size)
				checkLevels(t, db, "///")
			} else {
				checkMem(t, db, size)
				checkLevels(t, db, "3:k0-k6///")
				checkFiles(t, d, "current man.1 tab.3 wal.2")
				if m := db.Level(0)[0]; m.Seq != uint64(n) {
					t.Errorf("%v", m)
				}
				checkNumbers(t, d, 4, 2, uint64(n))
			}
		}
	}
}

// TestWriteTellsTheFlushsError, and doesn't write.
func TestWriteTellsTheFlushsError(t *testing.T) {
	d := fs.New()
	db := open(t, d)
	fill(t, db, 0, 200)
	d.Quota(d.Size() + 1000) // the table would have more; what is written would not
	checkWrite(t, db, ops("z=1"), api.ErrFull)
	checkStops(t, db, false, true)
	checkSeq(t, db, 200)
	checkMem(t, db, 200)
	checkTold(t, db, filled(0, 200))
	checkStopped(t, db, d, api.ErrFull)
	d = fs.New()
	db = open(t, d)
	fill(t, db, 0, 200)
	d.Fuse(3)
	checkWrite(t, db, ops("z=1"), api.ErrDown)
	checkStops(t, db, true, false)
	checkMem(t, db, 200)
	checkTold(t, db, filled(0, 200))
	checkStopped(t, db, d, api.ErrDown)
}

func TestWriteTellsTheLogsError(t *testing.T) {
	for fuse := range 2 {
		d := fs.New()
		db := open(t, d)
		write(t, db, "a=1")
		d.Fuse(fuse)
		checkStops(t, db, false, false)
		checkWrite(t, db, ops("a=2 b=2"), api.ErrDown)
		checkStops(t, db, true, false)
		checkTold(t, db, "a=1")
		checkSeq(t, db, 1)
		checkMem(t, db, 1)
		checkStopped(t, db, d, api.ErrDown)
		d.Crash(0, nil)
		checkStopped(t, db, d, api.ErrDown) // it is down for ever
		checkTold(t, db, "a=1")
	}
	d := fs.New()
	db := open(t, d)
	write(t, db, "a=1")
	d.Quota(d.Size() + 6)
	checkWrite(t, db, ops("a=2"), api.ErrFull) // 5 bytes of a batch and its operation, and more
	checkStops(t, db, false, true)
	checkTold(t, db, "a=1")
	d.Quota(1 << 20)
	checkStopped(t, db, d, api.ErrFull) // it is full for ever
	db = open(t, d)
	checkTold(t, db, "a=1")
	write(t, db, "a=2")
	checkTold(t, db, "a=2")
}

// A log that somebody took away is broken as soon as it is written to.
func TestWriteToALogThatIsGone(t *testing.T) {
	d := fs.New()
	db := open(t, d)
	write(t, db, "a=1")
	checkOK(t, d.Remove("wal.1"))
	checkWrite(t, db, ops("a=2"), api.ErrNone)
	checkStops(t, db, true, false)
	checkTold(t, db, "a=1")
	checkStopped(t, db, d, api.ErrDown)
}

// A manifest that somebody took away, likewise.
func TestFlushToAManifestThatIsGone(t *testing.T) {
	d := fs.New()
	db := open(t, d)
	write(t, db, "a=1")
	checkOK(t, d.Remove("man.1"))
	checkErrno(t, db.Flush(), api.ErrNone)
	checkStops(t, db, true, false)
	checkTold(t, db, "a=1")
	checkLevels(t, db, "///")
	checkStopped(t, db, d, api.ErrDown)
}

// Another error makes it neither down nor full.
func TestAnErrorThatStopsNothing(t *testing.T) {
	d := fs.New()
	db := open(t, d)
	write(t, db, "a=1")
	checkOK(t, d.Create("tab.3"))
	checkErrno(t, db.Flush(), api.ErrTwice)
	checkStops(t, db, false, false)
	checkMem(t, db, 1)
	checkTold(t, db, "a=1")
	write(t, db, "b=1")
	checkOK(t, db.Flush())
	checkLevels(t, db, "5:a-b///")
	checkFiles(t, d, "current man.1 tab.3 tab.5 wal.2 wal.4")
	db = open(t, d)
	checkTold(t, db, "a=1 b=1")
	checkFiles(t, d, "current man.2 tab.5 wal.6")
}

// P14.3: what is read.

func TestGetAndScanOfAllLevels(t *testing.T) {
	d := fs.New()
	e := api.Edit{Next: 10, Seq: 30}
	e.New[3] = []api.Meta{layTable(t, d, 1, x("a", 1, "1"), x("b", 2, "1"), x("c", 3, "1"), x("d", 4, "1"), x("e", 5, "1"))}
	e.New[2] = []api.Meta{layTable(t, d, 2, x("b", 6, "2"), gone("c", 7), x("d", 8, "2"))}
	e.New[1] = []api.Meta{layTable(t, d, 3, x("b", 10, "3"), x("b", 9, "old"), x("c", 11, "3")), layTable(t, d, 4, gone("d", 12), x("f", 13, "3"))}
	e.New[0] = []api.Meta{layTable(t, d, 5, x("a", 20, "4"), x("f", 14, "4")), layTable(t, d, 6, x("f", 15, "5"))}
	layVersion(t, d, e)
	db := open(t, d)
	checkTold(t, db, "a=4 b=3 c=3 e=1 f=5")
	write(t, db, "-b e=6")
	checkTold(t, db, "a=4 c=3 e=6 f=5")
	for key, want := range map[string]string{"a": "4", "b": "-", "c": "3", "d": "-", "e": "6", "f": "5", "": "-", "g": "-", "aa": "-", "a\x00": "-"} {
		if want == "-" {
			checkGet(t, db, key, "", false)
		} else {
			checkGet(t, db, key, want, true)
		}
	}
	for _, x := range db.Scan("", "") {
		if want := map[string]uint64{"a": 20, "c": 11, "e": 32, "f": 15}[x.Key]; x.Seq != want || x.Del {
			t.Errorf("%v", x)
		}
	}
	checkScan(t, db, "a", "f", "a=4 c=3 e=6")
	checkScan(t, db, "a\x00", "", "c=3 e=6 f=5")
	checkScan(t, db, "c", "c", "")
	checkScan(t, db, "c", "c\x00", "c=3")
	checkScan(t, db, "b", "c", "")
	checkScan(t, db, "e", "a", "")
	checkScan(t, db, "", "a", "")
	checkScan(t, db, "", "a\x00", "a=4")
	checkScan(t, db, "g", "", "")
	checkScan(t, db, "f", "", "f=5")
	checkScan(t, db, "", "zz", "a=4 c=3 e=6 f=5")
}

// The greatest number counts, wherever it lies.
func TestTheNewestMayLieBelow(t *testing.T) {
	d := fs.New()
	e := api.Edit{Next: 10, Seq: 30}
	e.New[3] = []api.Meta{layTable(t, d, 1, x("a", 9, "below"), gone("b", 9))}
	e.New[0] = []api.Meta{layTable(t, d, 5, x("a", 8, "above"), x("b", 8, "above")), layTable(t, d, 6, x("a", 7, "newer file"))}
	layVersion(t, d, e)
	db := open(t, d)
	checkTold(t, db, "a=below")
	checkGet(t, db, "b", "", false)
}

// TestScanOfMany takes each range of some keys, of which each part lies elsewhere.
func TestScanOfMany(t *testing.T) {
	db := open(t, fs.New())
	fill(t, db, 0, 40)
	checkOK(t, db.Whole(nil))
	fill(t, db, 30, 90)
	checkOK(t, db.Flush())
	fill(t, db, 80, 120)
	for from := range 122 {
		for to := from - 2; to <= 122; to += 5 {
			checkScan(t, db, fmt.Sprintf("k%04d", from), fmt.Sprintf("k%04d", to), filled(from, min(to, 120)))
		}
		checkScan(t, db, fmt.Sprintf("k%04d", from), "", filled(from, 120))
	}
}

func TestGetOfKeysWithEachByte(t *testing.T) {
	db := open(t, fs.New())
	for i := range 256 {
		checkWrite(t, db, []api.Op{{Key: string([]byte{byte(i)}), Value: fmt.Sprint(i)}, {Key: "a" + string([]byte{byte(i)}), Value: fmt.Sprint(i)}}, api.OK)
	}
	for range 2 {
		for i := range 256 {
			checkGet(t, db, string([]byte{byte(i)}), fmt.Sprint(i), true)
			checkGet(t, db, "a"+string([]byte{byte(i)}), fmt.Sprint(i), true)
		}
		if l := db.Scan("a", "b"); len(l) != 257 || l[0].Key != "a" || l[256].Key != "a\xff" {
			t.Errorf("%v", l)
		}
		checkOK(t, db.Whole(nil))
	}
}

func TestAValueWithoutBytesIsThere(t *testing.T) {
	db := open(t, fs.New())
	write(t, db, "a= b=")
	checkGet(t, db, "a", "", true)
	checkScan(t, db, "", "", "a= b=")
	checkOK(t, db.Whole(nil))
	checkGet(t, db, "a", "", true)
}

func TestLevelOfNone(t *testing.T) {
	db := open(t, fs.New())
	flushed(t, db, "a=1")
	for _, l := range []int{-1, 1, 3, 4, math.MaxInt, math.MinInt} {
		if got := db.Level(l); len(got) != 0 {
			t.Errorf("%d: %v", l, got)
		}
	}
	if want := (api.Meta{File: 3, Size: len(must(table.Build([]api.Entry{x("a", 1, "1")}))), First: "a", Last: "a", Seq: 1}); !slices.Equal(db.Level(0), []api.Meta{want}) {
		t.Errorf("%v, not %v", db.Level(0), want)
	}
}

// must tells a text that comes with no error.
func must(s string, e api.Errno) string {
	if e != api.OK {
		panic(e)
	}
	return s
}

// P14.4: Flush.

func TestFlush(t *testing.T) {
	d := fs.New()
	db := open(t, d)
	write(t, db, "c=1 a=1 b=1 a=2 -b")
	checkOK(t, db.Flush())
	checkMem(t, db, 0)
	checkSeq(t, db, 5)
	checkLevels(t, db, "3:a-c///")
	checkNumbers(t, d, 4, 2, 5)
	if l := db.tables[3].All(); !slices.Equal(l, []api.Entry{x("a", 4, "2"), gone("b", 5), x("c", 1, "1")}) {
		t.Errorf("%v", l)
	}
	if b, e := d.Read("tab.3"); e != api.OK || b != must(table.Build(db.tables[3].All())) {
		t.Errorf("%q, %d", b, e)
	}
	checkTold(t, db, "a=2 c=1")
	write(t, db, "b=3")
	if texts, e := wal.Replay(d, 2); e != api.OK || !slices.Equal(texts, []string{encoded(t, 6, "b=3")}) {
		t.Errorf("%q, %d", texts, e)
	}
	checkTold(t, db, "a=2 b=3 c=1")
	if m := db.Level(0)[0]; m.Seq != 5 {
		t.Errorf("%v", m)
	}
}

// TestFlushOfNothing changes nothing, however many tables there are.
func TestFlushOfNothing(t *testing.T) {
	d := fs.New()
	db := open(t, d)
	for range 14 {
		was := state(d)
		checkOK(t, db.Flush())
		checkState(t, d, was)
		flushed(t, db, "a=1")
	}
	if n := len(db.Level(0)); n != 2 {
		t.Errorf("%d tables", n)
	}
}

// TestFlushOfRows: the last row is written first.
func TestFlushOfRows(t *testing.T) {
	for n, want := range map[int]string{
		99:  "3:k0000-k0098///",
		100: "3:k0000-k0099///",
		101: "4:k0000-k0099 3:k0100-k0100///",
		200: "4:k0000-k0099 3:k0100-k0199///",
	} {
		d := fs.New()
		db := open(t, d)
		for i := n - 1; i >= 0; i-- {
			fill(t, db, i, i+1)
		}
		checkOK(t, db.Flush())
		checkLevels(t, db, want)
		checkTold(t, db, filled(0, n))
		checkNumbers(t, d, 4+uint64((n-1)/100), 2, uint64(n))
		if changes, size := d.Loose(); changes != 1 || size != 0 { // that the old log goes
			t.Errorf("%d: %d, %d aren't sure", n, changes, size)
		}
	}
}

// TestFlushMakesRoomAtTheTop: with twelve tables it does, with eleven it doesn't.
func TestFlushMakesRoomAtTheTop(t *testing.T) {
	for _, keys := range []string{"a", "abcdefghijklmnopq"} {
		d := fs.New()
		db := open(t, d)
		for i := range 12 {
			if n := len(db.Level(0)); n != i || len(db.Level(1)) != 0 {
				t.Errorf("%q: %s", keys, levels(db))
			}
			flushed(t, db, string(keys[i%len(keys)])+"=1")
		}
		checkLevels(t, db, map[string]string{
			"a":                 "25:a-a 23:a-a 21:a-a 19:a-a 17:a-a 15:a-a 13:a-a 11:a-a 9:a-a 7:a-a 5:a-a 3:a-a///",
			"abcdefghijklmnopq": "25:l-l 23:k-k 21:j-j 19:i-i 17:h-h 15:g-g 13:f-f 11:e-e 9:d-d 7:c-c 5:b-b 3:a-a///",
		}[keys])
		flushed(t, db, "q=1")
		checkLevels(t, db, map[string]string{
			"a":                 "28:q-q/26:a-a//",
			"abcdefghijklmnopq": "28:q-q 23:k-k 21:j-j 19:i-i 17:h-h 15:g-g 13:f-f 11:e-e 9:d-d 7:c-c 5:b-b 3:a-a/26:l-l//",
		}[keys])
		checkFiles(t, d, map[string]string{
			"a":                 "current man.1 tab.26 tab.28 wal.27",
			"abcdefghijklmnopq": "current man.1 tab.11 tab.13 tab.15 tab.17 tab.19 tab.21 tab.23 tab.26 tab.28 tab.3 tab.5 tab.7 tab.9 wal.27",
		}[keys])
	}
}

// tiered is a store whose level 1 is full, its ranges apart, and whose keys go on behind.
func tiered(t *testing.T, d *fs.Disk) *DB {
	t.Helper()
	db := open(t, d)
	for i := range 30 {
		flushed(t, db, filled(i, i+1))
		checkOK(t, db.Compact(0, 0, nil))
	}
	if n := len(db.Level(1)); n != 30 {
		t.Fatalf("%d tables", n)
	}
	return db
}

// TestAFullLevel: what would come to it is told to be too many, and stays where it was.
func TestAFullLevel(t *testing.T) {
	d := fs.New()
	db := tiered(t, d)
	flushed(t, db, filled(30, 31))
	was := levels(db)
	checkErrno(t, db.Compact(0, 0, nil), api.ErrMany)
	checkLevels(t, db, was)
	checkTold(t, db, filled(0, 31))
	checkStops(t, db, false, false)
	if n := len(db.tables); n != 31 {
		t.Errorf("%d tables are kept", n)
	}
	if !slices.Contains(d.List(), "tab.94") { // it was written, and is nobody's
		t.Errorf("%v", d.List())
	}
	checkOK(t, db.Compact(1, 7, nil))
	checkOK(t, db.Compact(0, 0, nil))
	if len(db.Level(0)) != 0 || len(db.Level(1)) != 30 || len(db.Level(2)) != 1 {
		t.Error(levels(db))
	}
	checkTold(t, db, filled(0, 31))
	checkTold(t, open(t, d), filled(0, 31))
}

// TestAFullLevelUnderAFullTop: nothing can be flushed, and so nothing more be written than memory has room for.
func TestAFullLevelUnderAFullTop(t *testing.T) {
	d := fs.New()
	db := tiered(t, d)
	for i := range 12 {
		flushed(t, db, filled(30+i, 31+i))
	}
	write(t, db, "a=1")
	checkErrno(t, db.Flush(), api.ErrMany)
	checkMem(t, db, 1)
	checkErrno(t, db.Whole(nil), api.ErrMany)
	for i := range 199 {
		write(t, db, fmt.Sprintf("a=%d", i))
	}
	checkWrite(t, db, ops("a=x"), api.ErrMany)
	checkSeq(t, db, 42+200)
	checkTold(t, db, "a=198 "+filled(0, 42))
	checkStops(t, db, false, false)
	checkOK(t, db.Compact(1, 0, nil))
	write(t, db, "a=x")
	checkTold(t, db, "a=x "+filled(0, 42))
}

// P14.4: Compact.

func TestCompactTellsThePicksError(t *testing.T) {
	d := fs.New()
	db := open(t, d)
	flushed(t, db, "a=1")
	write(t, db, "b=1")
	was := state(d)
	never := func(row []api.Entry, _ bool) []api.Entry { t.Error("it is asked"); return row }
	for _, l := range []int{-1, 3, 4, math.MaxInt, math.MinInt} {
		checkErrno(t, db.Compact(l, 0, never), api.ErrArg)
	}
	for _, k := range []int{-1, math.MinInt} {
		checkErrno(t, db.Compact(0, k, never), api.ErrArg)
	}
	for l := 1; l <= 2; l++ {
		checkErrno(t, db.Compact(l, 0, never), api.ErrNone)
		checkErrno(t, db.Compact(l, -1, never), api.ErrArg)
	}
	checkState(t, d, was)
	checkStops(t, db, false, false)
	checkOK(t, db.Compact(0, math.MaxInt, nil)) // counted round
	checkLevels(t, db, "/4:a-a//")
	checkMem(t, db, 1)
}

func TestCompact(t *testing.T) {
	d := fs.New()
	db := open(t, d)
	flushed(t, db, "a=1 b=1 c=1 -d") // 3
	checkOK(t, db.Compact(0, 0, nil))
	checkOK(t, db.Compact(1, 0, nil)) // 5, in level 2: what went is gone
	checkLevels(t, db, "//5:a-c/")
	flushed(t, db, "b=2 -c")          // 7
	checkOK(t, db.Compact(0, 0, nil)) // 8
	checkLevels(t, db, "/8:b-c/5:a-c/")
	if l := db.tables[8].All(); told(l) != "b=2 -c" { // there is one below that would be seen
		t.Errorf("%v", l)
	}
	flushed(t, db, "x=3") // 10
	flushed(t, db, "-a")  // 12
	flushed(t, db, "b=3") // 14
	checkLevels(t, db, "14:b-b 12:a-a 10:x-x/8:b-c/5:a-c/")
	checkOK(t, db.Compact(0, 3, nil)) // 14 again: it is counted round
	checkLevels(t, db, "12:a-a 10:x-x/15:b-c/5:a-c/")
	if l := db.tables[15].All(); !slices.Equal(l, []api.Entry{x("b", 9, "3"), gone("c", 6)}) {
		t.Errorf("%v", l)
	}
	checkNumbers(t, d, 16, 13, 9)
	checkOK(t, db.Compact(0, 1, nil)) // 10
	checkLevels(t, db, "12:a-a/15:b-c 16:x-x/5:a-c/")
	checkTold(t, db, "b=3 x=3")
	checkOK(t, db.Compact(1, 0, nil)) // at the bottom
	checkLevels(t, db, "12:a-a/16:x-x/17:a-b/")
	checkTold(t, db, "b=3 x=3")
	checkOK(t, db.Compact(0, 0, nil))
	checkLevels(t, db, "/18:a-a 16:x-x/17:a-b/")
	checkOK(t, db.Compact(1, 0, nil))
	checkLevels(t, db, "/16:x-x/19:b-b/")
	checkFiles(t, d, "current man.1 tab.16 tab.19 wal.13")
	checkTold(t, db, "b=3 x=3")
	checkTold(t, open(t, d), "b=3 x=3")
}

// TestCompactOfWhatIsGone leaves no table, if nothing stays.
func TestCompactOfWhatIsGone(t *testing.T) {
	d := fs.New()
	db := open(t, d)
	flushed(t, db, "-a -b")
	d.SyncDir()
	checkOK(t, db.Compact(0, 0, nil))
	checkLevels(t, db, "///")
	checkFiles(t, d, "current man.1 wal.2")
	checkNumbers(t, d, 4, 2, 2)
	if changes, size := d.Loose(); changes != 1 || size != 0 {
		t.Errorf("%d, %d aren't sure", changes, size)
	}
	flushed(t, db, "a=1")
	checkLevels(t, db, "5:a-a///")
}

// TestCompactIntoRows: the first row is written first.
func TestCompactIntoRows(t *testing.T) {
	d := fs.New()
	db := open(t, d)
	fill(t, db, 0, 200)
	checkOK(t, db.Flush()) // 4, 3
	fill(t, db, 50, 151)
	checkOK(t, db.Flush()) // 7, 6
	fill(t, db, 150, 250)
	checkOK(t, db.Flush()) // 9
	checkOK(t, db.Compact(0, 0, nil))
	checkLevels(t, db, "/10:k0000-k0099 11:k0100-k0199 12:k0200-k0249//")
	checkTold(t, db, filled(0, 250))
	for i, m := range db.Level(1) {
		if n := db.tables[m.File].Len(); n != []int{100, 100, 50}[i] {
			t.Errorf("%v: %d", m, n)
		}
	}
	if m := db.Level(1)[1]; m.Seq != 351 || m.Size != len(must(d.Read("tab.11"))) {
		t.Errorf("%v", m)
	}
	checkOK(t, db.Compact(1, 1, nil))
	checkLevels(t, db, "/10:k0000-k0099 12:k0200-k0249/13:k0100-k0199/")
}

// TestCompactOfTheSame: of two entries of one key and number that of the first table counts.
func TestCompactOfTheSame(t *testing.T) {
	for _, whole := range []bool{false, true} {
		d := fs.New()
		e := api.Edit{Next: 10, Seq: 30}
		e.New[0] = []api.Meta{layTable(t, d, 5, x("a", 8, "5"), x("b", 9, "5")), layTable(t, d, 6, x("a", 8, "6"), x("c", 3, "6"))}
		e.New[1] = []api.Meta{layTable(t, d, 4, x("a", 8, "4"), x("b", 9, "4"), x("c", 3, "4"))}
		e.New[2] = []api.Meta{layTable(t, d, 3, x("a", 8, "3"), x("d", 1, "3"))}
		layVersion(t, d, e)
		db := open(t, d)
		checkTold(t, db, "a=6 b=5 c=6 d=3")
		if whole {
			checkOK(t, db.Whole(nil))
			checkLevels(t, db, "///11:a-d")
		} else {
			checkOK(t, db.Compact(0, 1, nil))
			checkLevels(t, db, "/11:a-c/3:a-d/")
		}
		checkTold(t, db, "a=6 b=5 c=6 d=3")
		checkOK(t, db.Whole(nil))
		checkTold(t, db, "a=6 b=5 c=6 d=3")
	}
}

// TestCompactRemovesInOrder lets the disk die behind each of the removals: first From's files go, then Into's.
func TestCompactRemovesInOrder(t *testing.T) {
	build := func() (*fs.Disk, *DB) {
		d := fs.New()
		e := api.Edit{Next: 50, Seq: 30}
		e.New[0] = []api.Meta{layTable(t, d, 5, x("a", 8, ""), x("c", 9, "")), layTable(t, d, 31, x("b", 8, ""), x("d", 9, ""))}
		e.New[1] = []api.Meta{layTable(t, d, 40, x("a", 7, "")), layTable(t, d, 2, x("d", 7, ""))}
		layVersion(t, d, e)
		return d, open(t, d)
	}
	for n, want := range []string{"tab.2 tab.31 tab.40 tab.5 tab.51", "tab.2 tab.40 tab.5 tab.51", "tab.2 tab.40 tab.51", "tab.2 tab.51", "tab.51"} {
		d, db := build()
		d.Fuse(6 + n)
		if e := db.Compact(0, 0, nil); (e == api.OK) != (n == 4) {
			t.Errorf("%d: %d", n, e)
		}
		checkStops(t, db, n < 4, false)
		checkFiles(t, d, "current man.2 "+want+" wal.50")
		checkTold(t, db, "a= b= c= d=")
		checkLevels(t, db, "/51:a-d//")
	}
}

// P14.4: filters.

// TestWhatAFilterIsHanded: the newest of all that is merged, with what was taken away.
func TestWhatAFilterIsHanded(t *testing.T) {
	d := fs.New()
	db := open(t, d)
	asked := ""
	ask := func(row []api.Entry, bottom bool) []api.Entry {
		asked += fmt.Sprint(told(row), ", ", bottom, ";")
		return row
	}
	check := func(want string) {
		t.Helper()
		if asked != want {
			t.Errorf("%q, not %q", asked, want)
		}
		asked = ""
	}
	flushed(t, db, "a=1 b=1 -c")
	checkOK(t, db.Compact(0, 0, ask))
	check("a=1 b=1 -c, true;")
	flushed(t, db, "a=2 -a d=2")
	flushed(t, db, "b=3 c=3")
	flushed(t, db, "x=3")
	checkOK(t, db.Compact(0, 1, ask))
	check("-a b=3 c=3 d=2, true;")
	checkOK(t, db.Compact(1, 0, ask))
	check("b=3 c=3 d=2, true;")
	flushed(t, db, "-c")
	checkOK(t, db.Compact(0, 0, ask))
	check("-c, false;")
	write(t, db, "y=4 -y")
	checkOK(t, db.Whole(ask))
	check("b=3 -c d=2 x=3 -y, true;")
	checkLevels(t, db, "///18:b-x")
	checkTold(t, db, "b=3 d=2 x=3")
	checkErrno(t, db.Compact(0, 0, ask), api.ErrNone)
	write(t, db, "z=1")
	checkOK(t, db.Flush())
	check("")
}

// filtering compacts a=1 b=1 -c d=1 with a filter, and tells what is there then.
func filtering(t *testing.T, f Filter) string {
	t.Helper()
	db := open(t, fs.New())
	flushed(t, db, "a=1 b=1 -c d=1")
	checkOK(t, db.Compact(0, 0, f))
	checkStops(t, db, false, false)
	if s := told(db.Scan("", "")); s != "" {
		return s
	}
	if levels(db) != "///" {
		t.Error(levels(db))
	}
	return ""
}

// TestPartsOfARow takes each part of a row.
func TestPartsOfARow(t *testing.T) {
	row := []api.Entry{x("a", 1, "1"), x("b", 2, "1"), gone("c", 3), x("d", 4, "1")}
	for set := range 16 {
		var part []api.Entry
		for i, x := range row {
			if set>>i&1 == 1 {
				part = append(part, x)
			}
		}
		got := filtering(t, func([]api.Entry, bool) []api.Entry { return part })
		if want := told(stay(part)); got != want {
			t.Errorf("%v: %q, not %q", part, got, want)
		}
		if i := slices.IndexFunc(part, func(x api.Entry) bool { return x.Key == "" }); i >= 0 {
			t.Errorf("the filter's list was changed: %v", part)
		}
	}
}

// TestNoPartsOfARow: the row stays as it was.
func TestNoPartsOfARow(t *testing.T) {
	a, b, c, d := x("a", 1, "1"), x("b", 2, "1"), gone("c", 3), x("d", 4, "1")
	for _, l := range [][]api.Entry{
		{b, a},
		{a, a},
		{d, d},
		{a, b, c, d, d},
		{a, d, c},
		{x("a", 1, "2")},
		{x("a", 2, "1")},
		{x("aa", 1, "1")},
		{gone("a", 1)},
		{x("c", 3, "")},
		{a, b, c, d, x("e", 5, "1")},
		{x("", 1, ""), a},
		{api.Entry{}},
		{a, x("b", 3, "1")},
		{a, {Key: "b", Seq: 2, Del: true, Value: "1"}},
		slices.Repeat([]api.Entry{a}, 1000),
	} {
		if got := filtering(t, func([]api.Entry, bool) []api.Entry { return l }); got != "a=1 b=1 d=1" {
			t.Errorf("%v: %q", l, got)
		}
	}
}

// A filter that changes what it is handed, and one that ends in panic, tell nothing.
func TestAFilterThatBreaks(t *testing.T) {
	for name, f := range map[string]Filter{
		"changed": func(row []api.Entry, _ bool) []api.Entry { row[0].Value = "x"; return row },
		"swapped": func(row []api.Entry, _ bool) []api.Entry { row[0], row[1] = row[1], row[0]; return row },
		"longer":  func(row []api.Entry, _ bool) []api.Entry { return append(row, x("z", 9, "")) },
		"panics":  func(row []api.Entry, _ bool) []api.Entry { clear(row); panic("no") },
		"nil":     func(row []api.Entry, _ bool) []api.Entry { panic(nil) },
		"index":   func(row []api.Entry, _ bool) []api.Entry { return row[:len(row)+cap(row)+1] },
	} {
		if got := filtering(t, f); got != "a=1 b=1 d=1" {
			t.Errorf("%s: %q", name, got)
		}
	}
	if got := filtering(t, func(row []api.Entry, _ bool) []api.Entry { // its own may be changed, and what it tells counts
		part := slices.Clone(row[1:2])
		clear(row)
		return part
	}); got != "b=1" {
		t.Errorf("%q", got)
	}
}

// TestAFilterThatCallsTheStore: nothing of it is broken by that.
func TestAFilterThatCallsTheStore(t *testing.T) {
	d := fs.New()
	db := open(t, d)
	flushed(t, db, "a=1 b=1")
	e := db.Compact(0, 0, func(row []api.Entry, _ bool) []api.Entry {
		checkTold(t, db, "a=1 b=1")
		write(t, db, "c=1")
		checkOK(t, db.Compact(0, 0, nil))
		checkOK(t, db.Whole(nil))
		return row
	})
	checkErrno(t, e, api.ErrNone) // what it had picked was gone
	checkTold(t, db, "a=1 b=1 c=1")
	e = db.Whole(func(row []api.Entry, _ bool) []api.Entry {
		flushed(t, db, "d=1")
		return row[1:]
	})
	checkOK(t, e)
	checkTold(t, db, "b=1 c=1 d=1")
	checkTold(t, open(t, d), "b=1 c=1 d=1")
}

// What a filter takes away may let an elder entry be seen.
func TestWhatAFilterTakesAway(t *testing.T) {
	db := open(t, fs.New())
	flushed(t, db, "a=1 b=1")
	checkOK(t, db.Whole(nil))
	flushed(t, db, "a=2 -b")
	none := func([]api.Entry, bool) []api.Entry { return nil }
	checkOK(t, db.Compact(0, 0, none))
	checkTold(t, db, "a=1 b=1")
	checkOK(t, db.Whole(none))
	checkTold(t, db, "")
	checkLevels(t, db, "///")
}

// P14.4: Whole.

func TestWholeOfNothing(t *testing.T) {
	d := fs.New()
	db := open(t, d)
	was := state(d)
	never := func(row []api.Entry, _ bool) []api.Entry { t.Error("it is asked"); return row }
	checkOK(t, db.Whole(never))
	checkOK(t, db.Whole(nil))
	checkState(t, d, was)
	write(t, db, "-a")
	checkOK(t, db.Whole(nil)) // written, and merged to nothing
	checkLevels(t, db, "///")
	checkFiles(t, d, "current man.1 wal.2")
	checkNumbers(t, d, 4, 2, 1)
	checkOK(t, db.Whole(never))
}

func TestWhole(t *testing.T) {
	d := fs.New()
	e := api.Edit{Next: 50, Seq: 300}
	for l, lists := range [][][]api.Entry{
		{{x("a", 20, "0"), gone("m", 21)}, {x("a", 22, "1"), x("z", 3, "0")}},
		{{x("b", 10, "1"), x("m", 11, "1")}, {x("n", 12, "1")}},
		{{gone("b", 5)}, {gone("c", 6), x("n", 7, "2")}},
		{{x("b", 1, "3"), x("c", 2, "3")}, {x("o", 1, "3")}},
	} {
		for i, list := range lists {
			e.New[l] = append(e.New[l], layTable(t, d, uint64(20-4*l+i), list...))
		}
	}
	layVersion(t, d, e)
	db := open(t, d)
	write(t, db, "o=4 -z")
	checkOK(t, db.Whole(nil))
	checkTold(t, db, "a=1 b=1 n=1 o=4")
	checkLevels(t, db, "///53:a-o")
	checkFiles(t, d, "current man.2 tab.53 wal.51")
	checkNumbers(t, d, 54, 51, 302)
	checkMem(t, db, 0)
	if m := db.Level(3)[0]; m.Seq != 301 {
		t.Errorf("%v", m)
	}
	checkOK(t, db.Whole(nil)) // once more: there is a table
	checkLevels(t, db, "///54:a-o")
	checkTold(t, open(t, d), "a=1 b=1 n=1 o=4")
}

func TestWholeRemovesInOrder(t *testing.T) {
	build := func() (*fs.Disk, *DB) {
		d := fs.New()
		e := api.Edit{Next: 50, Seq: 30}
		e.New[0] = []api.Meta{layTable(t, d, 5, x("a", 8, "")), layTable(t, d, 31, x("b", 8, ""))}
		e.New[1] = []api.Meta{layTable(t, d, 40, x("a", 7, "")), layTable(t, d, 2, x("d", 7, ""))}
		e.New[3] = []api.Meta{layTable(t, d, 7, x("e", 7, ""))}
		layVersion(t, d, e)
		return d, open(t, d)
	}
	for n, want := range []string{"tab.2 tab.31 tab.40 tab.5 tab.51 tab.7", "tab.2 tab.40 tab.5 tab.51 tab.7", "tab.2 tab.40 tab.51 tab.7", "tab.2 tab.51 tab.7", "tab.51 tab.7", "tab.51"} {
		d, db := build()
		d.Fuse(6 + n)
		if e := db.Whole(nil); (e == api.OK) != (n == 5) {
			t.Errorf("%d: %d", n, e)
		}
		checkFiles(t, d, "current man.2 "+want+" wal.50")
		checkTold(t, db, "a= b= d= e=")
		checkLevels(t, db, "///51:a-e")
	}
}

func TestWholeIntoRows(t *testing.T) {
	d := fs.New()
	db := open(t, d)
	fill(t, db, 0, 350)
	checkOK(t, db.Whole(nil))
	l := db.Level(3)
	if len(l) != 4 || l[0].First != "k0000" || l[0].Last != "k0099" || l[3].First != "k0300" || l[3].Last != "k0349" || l[0].File+3 != l[3].File {
		t.Error(levels(db))
	}
	checkTold(t, db, filled(0, 350))
	checkTold(t, open(t, d), filled(0, 350))
}

// R3, R4, R5.

func TestNothingIsShared(t *testing.T) {
	db := open(t, fs.New())
	l := ops("a=1 b=1")
	checkOK(t, db.Write(l, 0))
	if told(batch.Entries(1, l)) != "a=1 b=1" {
		t.Errorf("%v", l)
	}
	l[0] = api.Op{Key: "x"}
	checkTold(t, db, "a=1 b=1")
	clear(db.Scan("", ""))
	checkTold(t, db, "a=1 b=1")
	checkOK(t, db.Flush())
	clear(db.Scan("", ""))
	clear(db.Level(0))
	checkTold(t, db, "a=1 b=1")
	checkLevels(t, db, "3:a-b///")
	var kept, own []api.Entry
	checkOK(t, db.Compact(0, 0, func(row []api.Entry, _ bool) []api.Entry {
		kept, own = row, slices.Clone(row)
		return own
	}))
	clear(kept)
	clear(own)
	checkTold(t, db, "a=1 b=1")
}

func TestTwoStoresAreApart(t *testing.T) {
	a, b := open(t, fs.New()), open(t, fs.New())
	write(t, a, "a=1")
	write(t, b, "a=2")
	checkOK(t, a.Whole(nil))
	checkTold(t, a, "a=1")
	checkTold(t, b, "a=2")
	checkMem(t, b, 1)
}

// TestAVersionOnTheDiskIsTheStores: what the levels tell is what the disk would tell.
func TestAVersionOnTheDiskIsTheStores(t *testing.T) {
	d := fs.New()
	db := open(t, d)
	s := script(9)
	for range 80 {
		if l := s.ops(40); db.Write(l, 7) == api.OK && s.draw(2) == 0 {
			checkOK(t, db.Flush())
			db.Compact(s.draw(3), s.draw(5), nil)
		}
		v, _, e := manifest.Read(d)
		if e != api.OK {
			t.Fatal(e)
		}
		for l := range 4 {
			if !slices.Equal(v.Level(l), db.Level(l)) {
				t.Fatalf("%v, not %v", db.Level(l), v.Level(l))
			}
		}
		checkFilesOf(t, d, v)
	}
}

// checkFilesOf holds that a disk has the tables of a version, and no other ones.
func checkFilesOf(t *testing.T, d *fs.Disk, v *level.Version) {
	t.Helper()
	var names []string
	for _, n := range v.Files() {
		names = append(names, nameByWords(n))
	}
	slices.Sort(names)
	got := slices.DeleteFunc(d.List(), func(name string) bool { return !strings.HasPrefix(name, "tab.") })
	if !slices.Equal(got, names) {
		t.Fatalf("%v, not %v", got, names)
	}
}
