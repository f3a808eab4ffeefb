package wal

import (
	"encoding/binary"
	"fmt"
	"math"
	"slices"
	"strings"
	"testing"

	"scree/api"
	"scree/fs"
)

// frameAgain tells a text's frame as the words say it.
func frameAgain(text string) string {
	b := binary.AppendUvarint(nil, uint64(len(text)))
	last := byte(165)
	for _, c := range []byte(text) {
		last ^= c
	}
	return string(append(append(b, text...), last))
}

// framesAgain tells the frames of texts, one behind the other.
func framesAgain(texts []string) string {
	var b strings.Builder
	for _, text := range texts {
		b.WriteString(frameAgain(text))
	}
	return b.String()
}

// texts tells texts of all kinds: none, short, with any bytes, such as look like frames, the longest.
func texts() []string {
	return []string{"a", "", "bc", "\x00\xa5", "\x01a\xc4", "\xff\xfe", strings.Repeat("x", 127), strings.Repeat("y", 128), strings.Repeat("z", api.MaxFrame), "é"}
}

// create makes a log that must be made.
func create(t *testing.T, d *fs.Disk, n uint64) *Log {
	t.Helper()
	l, e := Create(d, n)
	if e != api.OK || l == nil {
		t.Fatalf("Create(%d): %v, %d", n, l, e)
	}
	return l
}

// add lays texts down that must be laid.
func add(t *testing.T, l *Log, texts ...string) {
	t.Helper()
	for _, text := range texts {
		checkAdd(t, l, text, api.OK)
	}
}

func checkAdd(t *testing.T, l *Log, text string, want api.Errno) {
	t.Helper()
	if e := l.Add(text); e != want {
		t.Errorf("Add(%.20q): %d, not %d", text, e, want)
	}
}

// checkLog holds what a log tells of itself against what it should.
func checkLog(t *testing.T, l *Log, number uint64, size int, broken bool) {
	t.Helper()
	if l.Number() != number || l.Size() != size || l.Broken() != broken {
		t.Errorf("%d, %d, %v, not %d, %d, %v", l.Number(), l.Size(), l.Broken(), number, size, broken)
	}
}

func checkReplay(t *testing.T, d *fs.Disk, n uint64, want []string, e api.Errno) {
	t.Helper()
	got, f := Replay(d, n)
	if !slices.Equal(got, want) || f != e {
		t.Errorf("Replay(%d): %.80q, %d, not %.80q, %d", n, got, f, want, e)
	}
}

func checkNoLog(t *testing.T, d *fs.Disk, n uint64, want api.Errno) {
	t.Helper()
	if l, e := Create(d, n); l != nil || e != want {
		t.Errorf("Create(%d): %v, %d, not %d", n, l, e, want)
	}
}

func checkNumbers(t *testing.T, d *fs.Disk, want ...uint64) {
	t.Helper()
	if got := Numbers(d); !slices.Equal(got, want) {
		t.Errorf("Numbers: %v, not %v", got, want)
	}
}

func checkRemove(t *testing.T, d *fs.Disk, n uint64, want api.Errno) {
	t.Helper()
	if e := Remove(d, n); e != want {
		t.Errorf("Remove(%d): %d, not %d", n, e, want)
	}
}

// checkFiles holds a disk's files, told as names and bytes in turn, against what they should be.
func checkFiles(t *testing.T, d *fs.Disk, want ...string) {
	t.Helper()
	var got []string
	for _, name := range d.List() {
		b, _ := d.Read(name)
		got = append(got, name, b)
	}
	if !slices.Equal(got, want) {
		t.Errorf("%.80q, not %.80q", got, want)
	}
}

func checkLoose(t *testing.T, d *fs.Disk, changes, size int) {
	t.Helper()
	if c, s := d.Loose(); c != changes || s != size {
		t.Errorf("loose: %d, %d, not %d, %d", c, s, changes, size)
	}
}

// P6.1: names.

func TestName(t *testing.T) {
	for n, want := range map[uint64]string{
		0:              "wal.0",
		1:              "wal.1",
		9:              "wal.9",
		10:             "wal.10",
		305:            "wal.305",
		1<<40 - 1:      "wal.1099511627775",
		1 << 40:        "wal.1099511627776",
		1<<40 + 1:      "",
		1 << 41:        "",
		1 << 63:        "",
		math.MaxUint64: "",
	} {
		if got := Name(n); got != want {
			t.Errorf("%d: %q, not %q", n, got, want)
		}
	}
}

func TestNamesMayBeFiles(t *testing.T) {
	for _, n := range []uint64{0, 7, api.MaxTime} {
		if !fs.May(Name(n)) {
			t.Errorf("%q", Name(n))
		}
	}
}

func TestNumber(t *testing.T) {
	numbers := []uint64{api.MaxTime - 1, api.MaxTime}
	for n := range uint64(1200) {
		numbers = append(numbers, n)
	}
	for shift := range 40 {
		numbers = append(numbers, 1<<shift, 1<<shift+3)
	}
	for _, want := range numbers {
		name := fmt.Sprintf("wal.%d", want)
		if n, is := Number(name); n != want || !is || Name(want) != name {
			t.Errorf("%q: %d, %v, %q", name, n, is, Name(want))
		}
	}
}

func TestNumberOfNoName(t *testing.T) {
	for _, name := range []string{
		"", "w", "wal", "wal.", "wal0", "wal0.", "1", ".1", "al.1",
		"wal.00", "wal.01", "wal.007", "wal.+1", "wal.-1", "wal.-0", "wal.+0",
		"wal. 1", "wal.1 ", " wal.1", "wal.1\n", "wal.1\x00", "wal.1.", "wal..1", "wal.1.2", "wal.1,2", "wal.1_000",
		"wal.x", "wal.1x", "wal.x1", "wal.0x1", "wal.0b1", "wal.0o1", "wal.1e3", "wal.1.0", "wal.١", "wal.nan",
		"xwal.1", "WAL.1", "Wal.1", "wal.wal.1", "wal-1", "wal:1", "wal.\xff", "1.wal", "sst.1", "manifest.1",
		"wal.1099511627777", "wal.2199023255552", "wal.9999999999999", "wal.10995116277760",
		"wal.18446744073709551615", "wal.18446744073709551616", "wal.18446744073709551617", "wal.99999999999999999999",
		"wal." + strings.Repeat("0", 30), "wal." + strings.Repeat("9", 1000),
	} {
		if n, is := Number(name); n != 0 || is {
			t.Errorf("%q: %d, %v", name, n, is)
		}
	}
}

func TestNumberOfOneByteMore(t *testing.T) {
	for c := range 256 {
		name := "wal.1" + string([]byte{byte(c)})
		n, is := Number(name)
		want := uint64(0)
		digit := '0' <= c && c <= '9'
		if digit {
			want = 10 + uint64(c-'0')
		}
		if n != want || is != digit {
			t.Errorf("%q: %d, %v", name, n, is)
		}
	}
}

// P6.1: Create.

func TestCreate(t *testing.T) {
	for _, n := range []uint64{0, 1, 12, api.MaxTime} {
		d := fs.New()
		l := create(t, d, n)
		checkLog(t, l, n, 0, false)
		checkFiles(t, d, fmt.Sprintf("wal.%d", n), "")
		checkReplay(t, d, n, nil, api.OK)
	}
}

func TestCreateIsSure(t *testing.T) {
	d := fs.New()
	l := create(t, d, 3)
	checkLoose(t, d, 0, 0)
	d.Crash(0, nil)
	checkFiles(t, d, "wal.3", "")
	add(t, l, "a")
	checkReplay(t, d, 3, []string{"a"}, api.OK)
}

func TestCreateWrong(t *testing.T) {
	d := fs.New()
	checkNoLog(t, nil, 1, api.ErrArg)
	for _, n := range []uint64{api.MaxTime + 1, 1 << 41, math.MaxUint64} {
		checkNoLog(t, d, n, api.ErrArg)
		checkNoLog(t, nil, n, api.ErrArg)
	}
	checkFiles(t, d)
	checkLoose(t, d, 0, 0)
}

func TestCreateTwice(t *testing.T) {
	d := fs.New()
	l := create(t, d, 1)
	add(t, l, "a")
	checkNoLog(t, d, 1, api.ErrTwice)
	checkLog(t, l, 1, 3, false)
	add(t, l, "b")
	checkReplay(t, d, 1, []string{"a", "b"}, api.OK)
	checkRemove(t, d, 1, api.OK)
	checkLog(t, create(t, d, 1), 1, 0, false)
	checkReplay(t, d, 1, nil, api.OK)
}

func TestCreateMany(t *testing.T) {
	d := fs.New()
	for n := range uint64(60) {
		create(t, d, n)
	}
	checkNoLog(t, d, 60, api.ErrMany)
	checkNoLog(t, d, 59, api.ErrTwice)
	checkNoLog(t, d, api.MaxTime+1, api.ErrArg)
}

func TestCreateOnADiskThatDies(t *testing.T) {
	for fuse := range 4 {
		d := fs.New()
		d.Fuse(fuse)
		l, e := Create(d, 1)
		if fuse >= 2 {
			if l == nil || e != api.OK || d.Dead() {
				t.Errorf("%d: %v, %d", fuse, l, e)
			}
			continue
		}
		if l != nil || e != api.ErrDown || !d.Dead() {
			t.Errorf("%d: %v, %d", fuse, l, e)
		}
		checkLoose(t, d, fuse, 0) // the name was made, but isn't sure
		checkNoLog(t, d, 2, api.ErrDown)
		checkNoLog(t, d, api.MaxTime+1, api.ErrArg)
	}
}

// P6.2: Add.

func TestAddLaysFrames(t *testing.T) {
	d := fs.New()
	l := create(t, d, 7)
	list := texts()
	for i, text := range list {
		add(t, l, text)
		want := framesAgain(list[:i+1])
		checkFiles(t, d, "wal.7", want)
		checkLog(t, l, 7, len(want), false)
		checkLoose(t, d, 0, 0)
		checkReplay(t, d, 7, list[:i+1], api.OK)
	}
}

func TestAddBytes(t *testing.T) {
	d := fs.New()
	l := create(t, d, 3)
	add(t, l, "a", "", "ab")
	checkFiles(t, d, "wal.3", "\x01a\xc4\x00\xa5\x02ab\xa6")
	checkLog(t, l, 3, 9, false)
}

func TestAddSize(t *testing.T) {
	d := fs.New()
	l := create(t, d, 1)
	longest := strings.Repeat("x", api.MaxFrame)
	add(t, l, longest)
	for _, text := range []string{longest + "x", strings.Repeat("x", 9000), strings.Repeat("x", 1<<20+1)} {
		checkAdd(t, l, text, api.ErrSize)
		checkLog(t, l, 1, api.MaxFrame+3, false)
	}
	add(t, l, "b")
	checkLog(t, l, 1, api.MaxFrame+6, false)
	checkReplay(t, d, 1, []string{longest, "b"}, api.OK)
}

func TestAddSizeBurnsNothing(t *testing.T) {
	d := fs.New()
	l := create(t, d, 1)
	d.Fuse(2)
	checkAdd(t, l, strings.Repeat("x", api.MaxFrame+1), api.ErrSize)
	add(t, l, "a")
	checkAdd(t, l, strings.Repeat("x", api.MaxFrame+1), api.ErrSize)
	checkLog(t, l, 1, 3, false)
}

func TestAddOnAFullDisk(t *testing.T) {
	d := fs.New()
	l := create(t, d, 1)
	add(t, l, "ab")
	d.Quota(8)
	checkAdd(t, l, "abc", api.ErrFull)
	checkLog(t, l, 1, 4, false)
	checkFiles(t, d, "wal.1", "\x02ab\xa6")
	checkLoose(t, d, 0, 0)
	add(t, l, "cd") // what fits goes on, up to the last byte
	checkAdd(t, l, "", api.ErrFull)
	checkLog(t, l, 1, 8, false)
	checkReplay(t, d, 1, []string{"ab", "cd"}, api.OK)
	d.Quota(100)
	add(t, l, "abc")
	checkReplay(t, d, 1, []string{"ab", "cd", "abc"}, api.OK)
	checkLog(t, l, 1, 13, false)
}

func TestAddSizeAheadOfFull(t *testing.T) {
	d := fs.New()
	l := create(t, d, 1)
	d.Quota(0)
	checkAdd(t, l, strings.Repeat("x", api.MaxFrame+1), api.ErrSize)
	checkAdd(t, l, strings.Repeat("x", api.MaxFrame), api.ErrFull)
	checkLog(t, l, 1, 0, false)
}

func TestAddOnAFullDiskThatIsDead(t *testing.T) {
	d := fs.New()
	l := create(t, d, 1)
	d.Quota(4)
	d.Fuse(0)
	if e := d.SyncDir(); e != api.ErrDown {
		t.Fatal(e)
	}
	checkAdd(t, l, "abc", api.ErrFull) // the disk sees that it is full ahead of all else
	checkLog(t, l, 1, 0, false)
	checkAdd(t, l, "ab", api.ErrDown)
	checkLog(t, l, 1, 0, true)
	checkAdd(t, l, "abc", api.ErrDown)
}

func TestAddOnADiskThatDies(t *testing.T) {
	for fuse := range 2 {
		d := fs.New()
		l := create(t, d, 1)
		add(t, l, "ab")
		d.Fuse(fuse)
		checkAdd(t, l, "cde", api.ErrDown)
		checkLog(t, l, 1, 4, true)
		checkFiles(t, d, "wal.1", "\x02ab\xa6"+frameAgain("cde")[:5*fuse])
		checkLoose(t, d, 0, 5*fuse)
	}
}

func TestAddToABrokenLog(t *testing.T) {
	d := fs.New()
	l := create(t, d, 1)
	add(t, l, "ab")
	d.Fuse(1)
	checkAdd(t, l, "cde", api.ErrDown)
	d.Crash(0, []int{2})
	for _, text := range append(texts(), strings.Repeat("x", api.MaxFrame+1)) {
		checkAdd(t, l, text, api.ErrDown) // broken stays broken, and is told first
	}
	d.Quota(0)
	checkAdd(t, l, "x", api.ErrDown)
	checkLog(t, l, 1, 4, true)
	checkFiles(t, d, "wal.1", "\x02ab\xa6\x03c")
	if d.Dead() {
		t.Error("dead")
	}
}

func TestABrokenLogBurnsNothing(t *testing.T) {
	d := fs.New()
	l := create(t, d, 1)
	d.Fuse(0)
	checkAdd(t, l, "a", api.ErrDown)
	d.Crash(0, nil)
	d.Fuse(1)
	checkAdd(t, l, "a", api.ErrDown)
	if e := d.SyncDir(); e != api.OK {
		t.Error(e)
	}
}

func TestAddBehindACrash(t *testing.T) {
	d := fs.New()
	l := create(t, d, 1)
	add(t, l, "a")
	d.Crash(0, nil)
	add(t, l, "b") // the disk told this log no error
	checkLog(t, l, 1, 6, false)
	checkReplay(t, d, 1, []string{"a", "b"}, api.OK)
}

func TestAddWhenTheFileIsGone(t *testing.T) {
	d := fs.New()
	l := create(t, d, 1)
	add(t, l, "a")
	checkRemove(t, d, 1, api.OK)
	checkAdd(t, l, "b", api.ErrNone)
	checkLog(t, l, 1, 3, true)
	create(t, d, 1)
	checkAdd(t, l, "b", api.ErrDown)
	checkReplay(t, d, 1, nil, api.OK)
}

func TestAddBurnsTwice(t *testing.T) {
	d := fs.New()
	l := create(t, d, 1)
	d.Fuse(6)
	add(t, l, "a", "", "b")
	if e := d.SyncDir(); e != api.ErrDown {
		t.Error(e)
	}
	checkLog(t, l, 1, 8, false) // that error wasn't told to the log
	checkAdd(t, l, "c", api.ErrDown)
	checkLog(t, l, 1, 8, true)
}

func TestLogsSideBySide(t *testing.T) {
	d := fs.New()
	k, l := create(t, d, 1), create(t, d, 2)
	add(t, k, "a")
	add(t, l, "b", "c")
	add(t, k, "dd")
	checkLog(t, k, 1, 7, false)
	checkLog(t, l, 2, 6, false)
	d.Fuse(1)
	checkAdd(t, k, "e", api.ErrDown)
	checkLog(t, k, 1, 7, true)
	checkLog(t, l, 2, 6, false) // what one log was told breaks no other
	d.Crash(0, []int{3})
	add(t, l, "f")
	checkReplay(t, d, 1, []string{"a", "dd", "e"}, api.OK)
	checkReplay(t, d, 2, []string{"b", "c", "f"}, api.OK)
}

func TestLogsOfTwoDisks(t *testing.T) {
	c, d := fs.New(), fs.New()
	k, l := create(t, c, 1), create(t, d, 1)
	add(t, k, "a")
	add(t, l, "b")
	checkReplay(t, c, 1, []string{"a"}, api.OK)
	checkReplay(t, d, 1, []string{"b"}, api.OK)
}

// P6.3: Replay.

func TestReplayExample(t *testing.T) {
	d := fs.New()
	add(t, create(t, d, 3), "a", "b")
	checkReplay(t, d, 3, []string{"a", "b"}, api.OK)
	checkReplay(t, d, 3, []string{"a", "b"}, api.OK)
}

func TestReplayWrong(t *testing.T) {
	d := fs.New()
	checkReplay(t, nil, 1, nil, api.ErrArg)
	checkReplay(t, d, 1, nil, api.ErrNone)
	for _, n := range []uint64{api.MaxTime + 1, math.MaxUint64} {
		checkReplay(t, d, n, nil, api.ErrArg)
		checkReplay(t, nil, n, nil, api.ErrArg)
	}
	create(t, d, 10)
	checkReplay(t, d, 1, nil, api.ErrNone)
	checkReplay(t, d, api.MaxTime, nil, api.ErrNone)
}

// lay makes a file with bytes.
func lay(t *testing.T, d *fs.Disk, name, b string) {
	t.Helper()
	if e := d.Create(name); e != api.OK {
		t.Fatal(e)
	}
	if e := d.Append(name, b); e != api.OK {
		t.Fatal(e)
	}
}

func TestReplayUpToWhereItIsRight(t *testing.T) {
	for b, want := range map[string][]string{
		"":                                nil,
		"\x00":                            nil,
		"\x00\xa5":                        {""},
		"\x00\xa4":                        nil,
		"\x01a\xc4\x00\xa5\x02a":          {"a", ""},
		"\x01a\xc4\x01b\xc4\x01c\xc6":     {"a"},
		"\x01a\xc5\x00\xa5":               nil,
		"\x01a\xc4\x80\x00\xa5\x00\xa5":   {"a"},
		"\x01a\xc4\xc1\x3e" + "xxxxxx":    {"a"},
		"\xff\xff\xff\xff\xff\xff\xff":    nil,
		"\x01a\xc4" + "\x00\x00\x00\x00":  {"a"},
		"\x01a\xc4" + "\x05ab":            {"a"},
		"\x01a\xc4" + frameAgain("\x00"):  {"a", "\x00"},
		"\x01a\xc4" + frameAgain("\xa5b"): {"a", "\xa5b"},
	} {
		d := fs.New()
		lay(t, d, "wal.5", b)
		checkReplay(t, d, 5, want, api.OK)
		checkFiles(t, d, "wal.5", b)
	}
}

func TestReplayOfEachBeginning(t *testing.T) {
	list := []string{"abc", "", "d", "\x01a\xc4", strings.Repeat("x", 130), "é"}
	all := framesAgain(list)
	for end := range len(all) + 1 {
		d := fs.New()
		lay(t, d, "wal.5", all[:end])
		whole := 0
		for whole < len(list) && len(framesAgain(list[:whole+1])) <= end {
			whole++
		}
		checkReplay(t, d, 5, list[:whole], api.OK)
	}
}

func TestReplayOfADeadDisk(t *testing.T) {
	d := fs.New()
	l := create(t, d, 1)
	add(t, l, "a")
	d.Fuse(0)
	checkAdd(t, l, "b", api.ErrDown)
	checkReplay(t, d, 1, []string{"a"}, api.OK)
	checkNumbers(t, d, 1)
}

// P6.3: Numbers.

func TestNumbers(t *testing.T) {
	d := fs.New()
	checkNumbers(t, nil)
	checkNumbers(t, d)
	for _, n := range []uint64{12, 3, 100, api.MaxTime, 20, 0, 9, 111} {
		create(t, d, n)
	}
	checkNumbers(t, d, 0, 3, 9, 12, 20, 100, 111, api.MaxTime)
	checkRemove(t, d, 12, api.OK)
	checkRemove(t, d, 0, api.OK)
	checkNumbers(t, d, 3, 9, 20, 100, 111, api.MaxTime)
}

func TestNumbersAmongOtherFiles(t *testing.T) {
	d := fs.New()
	for _, name := range []string{"a", "manifest.1", "sst.2", "wal", "wal.", "wal.007", "wal.1099511627777", "wal.1x", "wal.x", "wal.3.4", "xwal.5", "z"} {
		lay(t, d, name, "x")
	}
	checkNumbers(t, d)
	lay(t, d, "wal.20", "no frames")
	lay(t, d, "wal.3", "")
	checkNumbers(t, d, 3, 20)
	if e := d.Rename("wal.3", "wal.30"); e != api.OK {
		t.Fatal(e)
	}
	if e := d.Rename("a", "wal.1"); e != api.OK {
		t.Fatal(e)
	}
	checkNumbers(t, d, 1, 20, 30)
}

func TestNumbersMayBeLeftEarly(t *testing.T) {
	d := fs.New()
	for n := range uint64(5) {
		create(t, d, n)
	}
	var got []uint64
	for n := range (shelf{d}).numbers {
		if n == 2 {
			break
		}
		got = append(got, n)
	}
	if !slices.Equal(got, []uint64{0, 1}) {
		t.Errorf("%v", got)
	}
}

// P6.3: Remove.

func TestRemove(t *testing.T) {
	d := fs.New()
	l := create(t, d, 3)
	add(t, l, "a")
	create(t, d, 4)
	checkRemove(t, d, 3, api.OK)
	checkFiles(t, d, "wal.4", "")
	checkLoose(t, d, 1, 0) // when it is sure is for others to say
	checkRemove(t, d, 3, api.ErrNone)
	checkReplay(t, d, 3, nil, api.ErrNone)
	d.Crash(0, nil)
	checkReplay(t, d, 3, []string{"a"}, api.OK)
	checkNumbers(t, d, 3, 4)
}

func TestRemoveWrong(t *testing.T) {
	d := fs.New()
	lay(t, d, "a", "x")
	checkRemove(t, nil, 1, api.ErrArg)
	checkRemove(t, d, 1, api.ErrNone)
	for _, n := range []uint64{api.MaxTime + 1, math.MaxUint64} {
		checkRemove(t, nil, n, api.ErrArg)
		checkRemove(t, d, n, api.ErrArg)
	}
	checkRemove(t, d, api.MaxTime, api.ErrNone)
	create(t, d, 1)
	d.Fuse(0)
	checkRemove(t, d, 2, api.ErrNone)
	checkRemove(t, d, 1, api.ErrDown)
	checkFiles(t, d, "a", "x", "wal.1", "")
}

func TestRemoveLargest(t *testing.T) {
	d := fs.New()
	create(t, d, api.MaxTime)
	create(t, d, 0)
	checkRemove(t, d, api.MaxTime, api.OK)
	checkRemove(t, d, 0, api.OK)
	checkFiles(t, d)
}

// P6.4: crashes.

// crashed tells what a log has behind a crash: texts are laid till the fuse has run out, and so many pending changes and loose bytes are kept. It tells how many Adds were told OK, too.
func crashed(t *testing.T, list []string, fuse, changes, keep int) (*fs.Disk, int) {
	t.Helper()
	d := fs.New()
	l := create(t, d, 1)
	d.Fuse(fuse)
	laid, size := 0, 0
	for _, text := range list {
		e := l.Add(text)
		switch {
		case e == api.OK && laid*2+2 <= fuse:
			laid++
			size += len(frameAgain(text))
		case e == api.ErrDown && laid*2+2 > fuse:
		default:
			t.Fatalf("fuse %d: Add %d: %d", fuse, laid, e)
		}
	}
	checkLog(t, l, 1, size, laid < len(list))
	d.Crash(changes, []int{keep})
	return d, laid
}

func TestAllThatWasToldOK(t *testing.T) {
	list := []string{"ab", "", "cde", "\x02ab\xa6", strings.Repeat("x", 20)}
	for fuse := range 2*len(list) + 2 {
		for keep := -1; keep <= 30; keep++ {
			d, laid := crashed(t, list, fuse, keep%3-1, keep)
			want := laid
			if laid < len(list) && fuse%2 == 1 && keep >= len(frameAgain(list[laid])) {
				want++ // the one that was being laid was kept whole
			}
			checkReplay(t, d, 1, list[:want], api.OK)
			checkNumbers(t, d, 1)
		}
	}
}

func TestTheLongestTextIsCutOff(t *testing.T) {
	longest := strings.Repeat("x", api.MaxFrame)
	size := len(frameAgain(longest))
	for _, keep := range []int{0, 1, 2, 3, size / 2, size - 2, size - 1, size, size + 1} {
		d, _ := crashed(t, []string{"a", longest}, 3, 0, keep)
		want := []string{"a"}
		if keep >= size {
			want = append(want, longest)
		}
		checkReplay(t, d, 1, want, api.OK)
	}
}

func TestCrashesWhileALogIsMade(t *testing.T) {
	for fuse := range 4 {
		for changes := range 3 {
			d := fs.New()
			d.Fuse(fuse)
			l, e := Create(d, 1)
			d.Crash(changes, nil)
			there := fuse >= 2 || fuse == 1 && changes >= 1
			if (l != nil) != (fuse >= 2) || (e == api.OK) != (fuse >= 2) {
				t.Errorf("%d: %v, %d", fuse, l, e)
			}
			if there {
				checkReplay(t, d, 1, nil, api.OK)
				checkNoLog(t, d, 1, api.ErrTwice)
			} else {
				checkReplay(t, d, 1, nil, api.ErrNone)
				create(t, d, 1)
			}
		}
	}
}

func TestManyCrashes(t *testing.T) {
	d := fs.New()
	want := map[uint64][]string{}
	for n := range uint64(40) {
		l := create(t, d, n)
		list := texts()[:n%6+1]
		d.Fuse(int(n % 9))
		for _, text := range list {
			if l.Add(text) == api.OK {
				want[n] = append(want[n], text)
			}
		}
		d.Crash(int(n%2), nil)
		d.Crash(0, []int{3, 3, 3})
	}
	for n := range uint64(40) {
		checkReplay(t, d, n, want[n], api.OK)
	}
}

// R3 to R6: nothing is shared, nothing is kept but by pointers.

func TestNothingIsShared(t *testing.T) {
	d := fs.New()
	l := create(t, d, 1)
	b := []byte("abc")
	add(t, l, string(b), "d")
	create(t, d, 2)
	texts, _ := Replay(d, 1)
	numbers := Numbers(d)
	texts[0], numbers[0] = "x", 9
	texts, numbers = append(texts[:1], "y"), append(numbers[:1], 8)
	checkReplay(t, d, 1, []string{"abc", "d"}, api.OK)
	checkNumbers(t, d, 1, 2)
	again, _ := Replay(d, 1)
	add(t, l, "e")
	if !slices.Equal(again, []string{"abc", "d"}) {
		t.Errorf("%q", again)
	}
}

func TestTheSameCallsAnswerTheSame(t *testing.T) {
	play := func() string {
		d := fs.New()
		var told strings.Builder
		for n := range uint64(12) {
			l, e := Create(d, n*7%11)
			fmt.Fprint(&told, e, " ")
			if e != api.OK {
				continue
			}
			d.Fuse(int(n))
			for _, text := range texts() {
				fmt.Fprint(&told, l.Add(text), l.Size(), l.Broken(), " ")
			}
			d.Crash(0, []int{5, 5, 5})
			list, e := Replay(d, l.Number())
			fmt.Fprint(&told, list, e, Numbers(d))
		}
		return told.String()
	}
	first := play()
	for range 3 {
		if again := play(); again != first {
			t.Fatalf("%s\n%s", first, again)
		}
	}
}
