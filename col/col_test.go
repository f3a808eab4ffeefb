package col

import (
	"encoding/binary"
	"math"
	"slices"
	"strings"
	"testing"

	"scree/api"
)

// What may be and what may not, at all edges that the words name.
var (
	starts   = []uint64{1, 2, 127, 128, 300, 16383, 16384, 1<<32 - 1, 1 << 32, 1<<40 - 1, 1 << 40}
	clocks   = append([]uint64{0}, starts...)
	farAway  = []uint64{1<<40 + 1, 1<<40 + 2, 1 << 41, 1<<63 - 1, 1 << 63, math.MaxUint64 - 1, math.MaxUint64}
	noStarts = append([]uint64{0}, farAway...)
	noKinds  = []int{0, 4, 5, 127, 128, 255, 256, 257, 258, 259, 1<<32 + 1, 1<<32 + 3, -1, -2, -3, -253, -254, -255, -256, math.MinInt, math.MinInt + 1, math.MaxInt}
	users    = []string{"a", "ab", "\x00", "\x00\x00", "\x01\x00a", "\xff", "\x80", "ü", strings.Repeat("a", 23), strings.Repeat("a", 24), strings.Repeat("\x00", 24), strings.Repeat("\xff", 24)}
	noUsers  = []string{"", strings.Repeat("a", 25), strings.Repeat("\x00", 25), strings.Repeat("\xff", 26), strings.Repeat("b", 256+1), strings.Repeat("c", 100000)}
)

// uvarints tells the short bytes of numbers, one behind the other.
func uvarints(list ...uint64) string {
	var b []byte
	for _, n := range list {
		b = binary.AppendUvarint(b, n)
	}
	return string(b)
}

// byWords tells by the library's way the numbers that s begins with, up to so many, and what follows; it takes also such as have more bytes than needed.
func byWords(s string, count int) ([]uint64, string, bool) {
	var list []uint64
	for range count {
		n, size := binary.Uvarint([]byte(s))
		if size <= 0 {
			return nil, "", false
		}
		list = append(list, n)
		s = s[size:]
	}
	return list, s, true
}

func isStart(n uint64) bool { return n > 0 && n <= 1<<40 }

func isClock(n uint64) bool { return n <= 1<<40 }

// lockByWords tells what Lock should.
func lockByWords(l api.Lock) (string, api.Errno) {
	if len(l.Primary) == 0 || len(l.Primary) > 24 || !isStart(l.Start) || l.Kind != 1 && l.Kind != 2 || !isClock(l.At) {
		return "", api.ErrForm
	}
	return map[int]string{1: "\x01", 2: "\x02"}[l.Kind] + uvarints(l.Start, l.At) + l.Primary, api.OK
}

// writeByWords tells what Write should.
func writeByWords(w api.Write) (string, api.Errno) {
	if !isStart(w.Start) || w.Kind != 1 && w.Kind != 2 && w.Kind != 3 {
		return "", api.ErrForm
	}
	return map[int]string{1: "\x01", 2: "\x02", 3: "\x03"}[w.Kind] + uvarints(w.Start), api.OK
}

// leasesByWords tells what Leases should.
func leasesByWords(l []Lease) (string, api.Errno) {
	s := ""
	for i, x := range l {
		if i == 5 || !isStart(x.Id) || !isStart(x.Time) || !isClock(x.Until) || i > 0 && l[i-1].Id >= x.Id {
			return "", api.ErrForm
		}
		s += uvarints(x.Id, x.Time, x.Until)
	}
	return s, api.OK
}

// unlockByWords tells what Unlock should.
func unlockByWords(s string) (api.Lock, api.Errno) {
	if s == "" {
		return api.Lock{}, api.ErrForm
	}
	n, rest, ok := byWords(s[1:], 2)
	if !ok {
		return api.Lock{}, api.ErrForm
	}
	l := api.Lock{Kind: int(s[0]), Start: n[0], At: n[1], Primary: rest}
	if again, e := lockByWords(l); e != api.OK || again != s {
		return api.Lock{}, api.ErrForm
	}
	return l, api.OK
}

// unwriteByWords tells what Unwrite should.
func unwriteByWords(s string) (api.Write, api.Errno) {
	if s == "" {
		return api.Write{}, api.ErrForm
	}
	n, _, ok := byWords(s[1:], 1)
	if !ok {
		return api.Write{}, api.ErrForm
	}
	w := api.Write{Kind: int(s[0]), Start: n[0]}
	if again, e := writeByWords(w); e != api.OK || again != s {
		return api.Write{}, api.ErrForm
	}
	return w, api.OK
}

// unleaseByWords tells what Unlease should.
func unleaseByWords(s string) ([]Lease, api.Errno) {
	var l []Lease
	for rest := s; rest != ""; {
		n, behind, ok := byWords(rest, 3)
		if !ok {
			return nil, api.ErrForm
		}
		l = append(l, Lease{n[0], n[1], n[2]})
		rest = behind
	}
	if again, e := leasesByWords(l); e != api.OK || again != s {
		return nil, api.ErrForm
	}
	return l, api.OK
}

func checkLock(t *testing.T, l api.Lock, s string, e api.Errno) {
	t.Helper()
	if got, f := Lock(l); got != s || f != e {
		t.Errorf("Lock(%#v): %x, %d; want %x, %d", l, got, f, s, e)
	}
}

func checkUnlock(t *testing.T, s string, l api.Lock, e api.Errno) {
	t.Helper()
	if got, f := Unlock(s); got != l || f != e {
		t.Errorf("Unlock(%x): %#v, %d; want %#v, %d", s, got, f, l, e)
	}
}

func checkWrite(t *testing.T, w api.Write, s string, e api.Errno) {
	t.Helper()
	if got, f := Write(w); got != s || f != e {
		t.Errorf("Write(%+v): %x, %d; want %x, %d", w, got, f, s, e)
	}
}

func checkUnwrite(t *testing.T, s string, w api.Write, e api.Errno) {
	t.Helper()
	if got, f := Unwrite(s); got != w || f != e {
		t.Errorf("Unwrite(%x): %+v, %d; want %+v, %d", s, got, f, w, e)
	}
}

func checkLeases(t *testing.T, l []Lease, s string, e api.Errno) {
	t.Helper()
	if got, f := Leases(l); got != s || f != e {
		t.Errorf("Leases(%+v): %x, %d; want %x, %d", l, got, f, s, e)
	}
}

func checkUnlease(t *testing.T, s string, l []Lease, e api.Errno) {
	t.Helper()
	if got, f := Unlease(s); !slices.Equal(got, l) || f != e {
		t.Errorf("Unlease(%x): %+v, %d; want %+v, %d", s, got, f, l, e)
	}
}

// checkBytes checks what the three tell of bytes, against the words.
func checkBytes(t *testing.T, s string) {
	t.Helper()
	l, e := unlockByWords(s)
	checkUnlock(t, s, l, e)
	w, e := unwriteByWords(s)
	checkUnwrite(t, s, w, e)
	list, e := unleaseByWords(s)
	checkUnlease(t, s, list, e)
}

// locks tells locks of all these parts, of which some may not be.
func locks(users []string, starts []uint64, kinds []int, clocks []uint64) []api.Lock {
	var list []api.Lock
	for _, user := range users {
		for _, start := range starts {
			for _, kind := range kinds {
				for _, at := range clocks {
					list = append(list, api.Lock{Primary: user, Start: start, Kind: kind, At: at})
				}
			}
		}
	}
	return list
}

func goodLocks() []api.Lock { return locks(users, starts, []int{1, 2}, clocks) }

// writes tells writes of all these parts, of which some may not be.
func writes(starts []uint64, kinds []int) []api.Write {
	var list []api.Write
	for _, start := range starts {
		for _, kind := range kinds {
			list = append(list, api.Write{Start: start, Kind: kind})
		}
	}
	return list
}

func goodWrites() []api.Write { return writes(starts, []int{1, 2, 3}) }

// rising tells so many leases with numbers that rise, and all sorts of times and clocks.
func rising(count int, n int) []Lease {
	var l []Lease
	for i := range count {
		id := starts[(n+i)%(len(starts)-4)] + uint64(i)<<33
		l = append(l, Lease{id, starts[(n*7+i)%len(starts)], clocks[(n*5+i*3)%len(clocks)]})
	}
	return l
}

// goodLeases tells lists of leases that may be: each edge of a number alone, and some of each count.
func goodLeases() [][]Lease {
	list := [][]Lease{nil, {{1, 1, 0}, {2, 1, 0}, {3, 1, 0}, {4, 1, 0}, {5, 1, 0}}}
	for _, n := range starts {
		for _, m := range starts {
			for _, until := range clocks {
				list = append(list, []Lease{{n, m, until}})
			}
		}
	}
	for count := 2; count <= MaxLeases; count++ {
		for n := range 200 {
			list = append(list, rising(count, n))
		}
	}
	return list
}

// samples tells bytes of locks, writes and leases.
func samples() []string {
	var list []string
	for _, l := range locks([]string{"a", "\x00", "\x01\x00a", strings.Repeat("\xff", 24)}, []uint64{1, 300, 1 << 40}, []int{1, 2}, []uint64{0, 128, 1 << 40}) {
		s, _ := lockByWords(l)
		list = append(list, s)
	}
	for _, w := range goodWrites() {
		s, _ := writeByWords(w)
		list = append(list, s)
	}
	for count := 1; count <= MaxLeases; count++ {
		for n := range 12 {
			s, _ := leasesByWords(rising(count, n))
			list = append(list, s)
		}
	}
	return list
}

func TestSamplesMayBe(t *testing.T) {
	for _, l := range goodLeases() {
		if _, e := leasesByWords(l); e != api.OK {
			t.Fatalf("%+v may not be", l)
		}
	}
	for _, s := range samples() {
		_, e := unlockByWords(s)
		_, f := unwriteByWords(s)
		_, g := unleaseByWords(s)
		if e != api.OK && f != api.OK && g != api.OK {
			t.Fatalf("%x is nothing's bytes", s)
		}
	}
}

// P15.1: locks.

func TestLockTable(t *testing.T) {
	x24 := strings.Repeat("x", 24)
	for _, x := range []struct {
		l api.Lock
		s string
	}{
		{api.Lock{Primary: "ab", Start: 300, Kind: api.KindPut, At: 7}, "\x01\xac\x02\x07ab"},
		{api.Lock{Primary: "ab", Start: 300, Kind: api.KindDel, At: 7}, "\x02\xac\x02\x07ab"},
		{api.Lock{Primary: "ab", Start: 7, Kind: api.KindPut, At: 300}, "\x01\x07\xac\x02ab"},
		{api.Lock{Primary: "\x00", Start: 1, Kind: api.KindPut}, "\x01\x01\x00\x00"},
		{api.Lock{Primary: x24, Start: 1 << 40, Kind: api.KindDel, At: 1 << 40}, "\x02\x80\x80\x80\x80\x80\x20\x80\x80\x80\x80\x80\x20" + x24},
	} {
		checkLock(t, x.l, x.s, api.OK)
		checkUnlock(t, x.s, x.l, api.OK)
	}
}

func TestLockByItsWords(t *testing.T) {
	all := goodLocks()
	all = append(all, locks(noUsers, starts, []int{1, 2}, clocks)...)
	all = append(all, locks(users, noStarts, []int{1, 2}, clocks)...)
	all = append(all, locks(users, starts, append([]int{api.KindRoll}, noKinds...), clocks)...)
	all = append(all, locks(users, starts, []int{1, 2}, farAway)...)
	all = append(all, locks(noUsers, noStarts, noKinds, farAway)...)
	for _, l := range all {
		s, e := lockByWords(l)
		checkLock(t, l, s, e)
	}
}

func TestLockWrong(t *testing.T) {
	right := api.Lock{Primary: "a", Start: 5, Kind: api.KindPut, At: 9}
	checkLock(t, right, "\x01\x05\x09a", api.OK)
	wrong := func(change func(l *api.Lock)) {
		t.Helper()
		l := right
		change(&l)
		checkLock(t, l, "", api.ErrForm)
	}
	for _, user := range noUsers {
		wrong(func(l *api.Lock) { l.Primary = user })
	}
	for _, n := range noStarts {
		wrong(func(l *api.Lock) { l.Start = n })
	}
	for _, kind := range append([]int{api.KindRoll}, noKinds...) {
		wrong(func(l *api.Lock) { l.Kind = kind })
	}
	for _, n := range farAway {
		wrong(func(l *api.Lock) { l.At = n })
	}
	wrong(func(l *api.Lock) { *l = api.Lock{} })
}

func TestUnlockWrong(t *testing.T) {
	for _, s := range []string{
		"",
		"\x01",
		"\x01\x05",                          // no clock
		"\x01\x05\x09",                      // no primary key
		"\x01\x05\x80",                      // a clock cut off
		"\x01\x80",                          // a start cut off
		"\x00\x05\x09a",                     // no kind of a lock's
		"\x03\x05\x09a",                     // likewise
		"\x04\x05\x09a",                     // likewise
		"\x81\x05\x09a",                     // likewise
		"\xff\x05\x09a",                     // likewise
		"\x01\x00\x09a",                     // the start 0
		"\x01\x85\x00\x09a",                 // more bytes than the start needs
		"\x01\x05\x89\x00a",                 // .. than the clock needs
		"\x01\x05\x80\x00a",                 // likewise
		"\x81\x00\x05\x09a",                 // .. than the kind needs
		"\x01\x81\x80\x80\x80\x80\x20\x09a", // a start above MaxTime
		"\x01\x05\x81\x80\x80\x80\x80\x20a", // a clock above MaxTime
		"\x01\x05\x09" + strings.Repeat("a", 25),
		"\x01\x05\x09" + strings.Repeat("\x00", 100000),
		"\x01" + strings.Repeat("\x80", 9) + "\x02\x09a", // no 64 bits
		"\x01\x05" + strings.Repeat("\x80", 9) + "\x02a", // likewise
		"\x01" + strings.Repeat("\xff", 9) + "\x01\x09a",
		"\x01\x05" + strings.Repeat("\xff", 9) + "\x01a",
		strings.Repeat("\xff", 100000),
		strings.Repeat("\x80", 100000),
		strings.Repeat("\x01", 100000),
	} {
		checkUnlock(t, s, api.Lock{}, api.ErrForm)
	}
}

// P15.1: writes.

func TestWriteTable(t *testing.T) {
	for _, x := range []struct {
		w api.Write
		s string
	}{
		{api.Write{Start: 1, Kind: api.KindPut}, "\x01\x01"},
		{api.Write{Start: 1, Kind: api.KindDel}, "\x02\x01"},
		{api.Write{Start: 1, Kind: api.KindRoll}, "\x03\x01"},
		{api.Write{Start: 127, Kind: api.KindPut}, "\x01\x7f"},
		{api.Write{Start: 300, Kind: api.KindRoll}, "\x03\xac\x02"},
		{api.Write{Start: 1 << 40, Kind: api.KindDel}, "\x02\x80\x80\x80\x80\x80\x20"},
	} {
		checkWrite(t, x.w, x.s, api.OK)
		checkUnwrite(t, x.s, x.w, api.OK)
	}
}

func TestWriteByItsWords(t *testing.T) {
	all := goodWrites()
	all = append(all, writes(noStarts, []int{1, 2, 3})...)
	all = append(all, writes(starts, noKinds)...)
	all = append(all, writes(noStarts, noKinds)...)
	for _, w := range all {
		s, e := writeByWords(w)
		checkWrite(t, w, s, e)
	}
}

func TestWriteWrong(t *testing.T) {
	checkWrite(t, api.Write{}, "", api.ErrForm)
	for _, n := range noStarts {
		for _, kind := range []int{api.KindPut, api.KindDel, api.KindRoll} {
			checkWrite(t, api.Write{Start: n, Kind: kind}, "", api.ErrForm)
		}
	}
	for _, kind := range noKinds {
		checkWrite(t, api.Write{Start: 1, Kind: kind}, "", api.ErrForm)
	}
}

func TestUnwriteWrong(t *testing.T) {
	for _, s := range []string{
		"",
		"\x01",
		"\x01\x80",                     // a start cut off
		"\x01\x00",                     // the start 0
		"\x00\x01",                     // no kind
		"\x04\x01",                     // likewise
		"\x83\x01",                     // likewise
		"\xff\x01",                     // likewise
		"\x01\x81\x00",                 // more bytes than the start needs
		"\x81\x00\x01",                 // .. than the kind needs
		"\x01\x01\x00",                 // a byte too many
		"\x01\x01\x01",                 // likewise
		"\x03\x81\x80\x80\x80\x80\x20", // a start above MaxTime
		"\x03" + strings.Repeat("\xff", 9) + "\x01",
		"\x03" + strings.Repeat("\x80", 9) + "\x02", // no 64 bits
		strings.Repeat("\x01", 100000),
		strings.Repeat("\x80", 100000),
		strings.Repeat("\xff", 100000),
	} {
		checkUnwrite(t, s, api.Write{}, api.ErrForm)
	}
}

// P15.2: leases.

func TestMaxLeases(t *testing.T) {
	if MaxLeases != 5 {
		t.Errorf("%d", MaxLeases)
	}
}

func TestLeasesTable(t *testing.T) {
	far := uint64(1 << 40)
	for _, x := range []struct {
		l []Lease
		s string
	}{
		{nil, ""},
		{[]Lease{}, ""},
		{[]Lease{{1, 1, 0}}, "\x01\x01\x00"},
		{[]Lease{{7, 300, 128}}, "\x07\xac\x02\x80\x01"},
		{[]Lease{{1, 300, 0}, {2, 1, 9}}, "\x01\xac\x02\x00\x02\x01\x09"},
		{[]Lease{{3, 9, 5}, {4, 8, 4}, {200, 7, 3}}, "\x03\x09\x05\x04\x08\x04\xc8\x01\x07\x03"},
		{[]Lease{{1, 1, 1}, {2, 1, 1}, {3, 1, 1}, {4, 1, 1}, {5, 1, 1}}, "\x01\x01\x01\x02\x01\x01\x03\x01\x01\x04\x01\x01\x05\x01\x01"},
		{[]Lease{{far, far, far}}, strings.Repeat("\x80\x80\x80\x80\x80\x20", 3)},
	} {
		checkLeases(t, x.l, x.s, api.OK)
		checkUnlease(t, x.s, x.l, api.OK)
	}
}

func TestLeasesByTheirWords(t *testing.T) {
	for _, l := range goodLeases() {
		s, _ := leasesByWords(l)
		checkLeases(t, l, s, api.OK)
		checkUnlease(t, s, l, api.OK)
	}
}

func TestLeasesEveryCount(t *testing.T) {
	var l []Lease
	for i := range uint64(300) {
		s, e := leasesByWords(l)
		if fits := i <= 5; fits != (e == api.OK) {
			t.Fatalf("%d: %d", i, e)
		}
		checkLeases(t, l, s, e)
		l = append(l, Lease{i + 1, 1, 1})
	}
}

func TestLeasesOneWrong(t *testing.T) {
	for count := 1; count <= MaxLeases; count++ {
		for at := range count {
			wrong := func(change func(x *Lease)) {
				t.Helper()
				l := rising(count, count+at)
				change(&l[at])
				checkLeases(t, l, "", api.ErrForm)
			}
			for _, n := range noStarts {
				wrong(func(x *Lease) { x.Id = n })
				wrong(func(x *Lease) { x.Time = n })
			}
			for _, n := range farAway {
				wrong(func(x *Lease) { x.Until = n })
			}
			wrong(func(x *Lease) { *x = Lease{} })
		}
	}
}

func TestLeasesOfNumbersThatDoNotRise(t *testing.T) {
	for count := 2; count <= MaxLeases; count++ {
		for at := 1; at < count; at++ {
			for n := range 20 {
				twice := rising(count, n)
				twice[at].Id = twice[at-1].Id
				checkLeases(t, twice, "", api.ErrForm)
				turned := rising(count, n)
				turned[at], turned[at-1] = turned[at-1], turned[at]
				checkLeases(t, turned, "", api.ErrForm)
			}
		}
	}
	checkLeases(t, []Lease{{2, 1, 0}, {1, 1, 0}, {3, 1, 0}}, "", api.ErrForm)
	checkLeases(t, []Lease{{1, 1, 0}, {3, 1, 0}, {2, 1, 0}}, "", api.ErrForm)
	checkLeases(t, []Lease{{1, 3, 2}, {2, 2, 1}, {3, 1, 0}}, "\x01\x03\x02\x02\x02\x01\x03\x01\x00", api.OK) // times and clocks may fall
}

func TestUnleaseWrong(t *testing.T) {
	five := "\x01\x01\x01\x02\x01\x01\x03\x01\x01\x04\x01\x01\x05\x01\x01"
	checkUnlease(t, five, []Lease{{1, 1, 1}, {2, 1, 1}, {3, 1, 1}, {4, 1, 1}, {5, 1, 1}}, api.OK)
	for _, s := range []string{
		"\x01",                             // no time
		"\x01\x01",                         // no clock
		"\x01\x01\x80",                     // a clock cut off
		"\x01\x01\x01\x02",                 // the second lease cut off
		"\x01\x01\x01\x02\x01",             // likewise
		"\x00\x01\x01",                     // the number 0
		"\x01\x00\x01",                     // the time 0
		"\x00\x00\x00",                     // likewise
		"\x01\x01\x01\x00\x00\x00",         // likewise
		"\x81\x00\x01\x01",                 // more bytes than the number needs
		"\x01\x81\x00\x01",                 // .. than the time needs
		"\x01\x01\x81\x00",                 // .. than the clock needs
		"\x01\x01\x80\x00",                 // likewise
		"\x02\x01\x01\x02\x01\x01",         // a number twice
		"\x02\x01\x01\x01\x01\x01",         // a number that falls
		"\x81\x80\x80\x80\x80\x20\x01\x01", // a number above MaxTime
		"\x01\x81\x80\x80\x80\x80\x20\x01", // a time above MaxTime
		"\x01\x01\x81\x80\x80\x80\x80\x20", // a clock above MaxTime
		"\x01\x01" + strings.Repeat("\x80", 9) + "\x02", // no 64 bits
		five + "\x06\x01\x01",                           // one too many
		five + "\x06",                                   // what follows is wrong, whatever it is
		five + "\x00",
		five + "\x80",
		five + strings.Repeat("\x01", 100000),
		five + five,
		strings.Repeat("\x00", 100000),
		strings.Repeat("\x01", 100000),
		strings.Repeat("\x80", 100000),
		strings.Repeat("\xff", 100000),
	} {
		checkUnlease(t, s, nil, api.ErrForm)
	}
}

// P15.1, P15.2: bytes that are nearly one's.

func TestBytesCutOrLonger(t *testing.T) {
	for _, s := range samples() {
		for cut := range len(s) {
			checkBytes(t, s[:cut])
			checkBytes(t, s[cut:])
		}
		for _, rest := range []string{"\x00", "\x01", "\x7f", "\x80", "\xff", "a", "\x01\x01", "\x80\x00", s, strings.Repeat("a", 24)} {
			checkBytes(t, s+rest)
			checkBytes(t, rest+s)
		}
	}
}

func TestBytesTurned(t *testing.T) {
	for _, s := range samples() {
		for i := range len(s) {
			for c := range 256 {
				turned := s[:i] + string([]byte{byte(c)}) + s[i+1:]
				checkBytes(t, turned)
			}
		}
	}
}

func TestBytesPutIn(t *testing.T) {
	for _, s := range samples() {
		for i := range len(s) + 1 {
			for _, c := range []string{"\x00", "\x01", "\x02", "\x20", "\x7f", "\x80", "\x81", "\xff"} {
				checkBytes(t, s[:i]+c+s[i:])
			}
		}
	}
}

func TestShortRows(t *testing.T) {
	letters := []byte{0, 1, 2, 3, 4, 128, 129, 255}
	counts := [3]int{}
	front := []string{""}
	for range 6 {
		var longer []string
		for _, s := range front {
			for _, c := range letters {
				longer = append(longer, s+string([]byte{c}))
			}
		}
		for _, s := range longer {
			checkBytes(t, s)
			if _, e := Unlock(s); e == api.OK {
				counts[0]++
			}
			if _, e := Unwrite(s); e == api.OK {
				counts[1]++
			}
			if _, e := Unlease(s); e == api.OK {
				counts[2]++
			}
		}
		front = longer
	}
	if counts[0] < 1000 || counts[1] < 100 || counts[2] < 100 {
		t.Errorf("only %d rows are something's", counts)
	}
}

// P15.3: what follows.

func TestThereAndBack(t *testing.T) {
	for _, l := range goodLocks() {
		s, e := Lock(l)
		if e != api.OK {
			t.Fatalf("Lock(%#v): %d", l, e)
		}
		checkUnlock(t, s, l, api.OK)
	}
	for _, w := range goodWrites() {
		s, e := Write(w)
		if e != api.OK {
			t.Fatalf("Write(%+v): %d", w, e)
		}
		checkUnwrite(t, s, w, api.OK)
	}
	for _, l := range goodLeases() {
		s, e := Leases(l)
		if e != api.OK {
			t.Fatalf("Leases(%+v): %d", l, e)
		}
		checkUnlease(t, s, l, api.OK)
	}
}

func TestBackAndThere(t *testing.T) {
	right := 0
	n := uint64(1)
	for range 300000 {
		n = n*6364136223846793005 + 1442695040888963407
		b := binary.BigEndian.AppendUint64(nil, n)
		b[0] = 1 + b[0]%3
		s := string(b[:2+b[7]%5])
		if l, e := Unlock(s); e == api.OK {
			checkLock(t, l, s, api.OK)
			right++
		}
		if w, e := Unwrite(s); e == api.OK {
			checkWrite(t, w, s, api.OK)
			right++
		}
		if l, e := Unlease(s); e == api.OK {
			checkLeases(t, l, s, api.OK)
			right++
		}
	}
	if right < 10000 {
		t.Errorf("only %d are something's", right)
	}
}

// checkUnlike checks that unlike ones have unlike bytes; each of list is another one than those ahead.
func checkUnlike[T any](t *testing.T, list []T, encode func(T) (string, api.Errno)) {
	t.Helper()
	all := map[string]T{}
	for _, x := range list {
		s, e := encode(x)
		if e != api.OK {
			t.Fatalf("%#v: %d", x, e)
		}
		if y, twice := all[s]; twice {
			t.Errorf("%#v and %#v: %x", x, y, s)
		}
		all[s] = x
	}
}

// smallLeases tells all lists of up to two leases of small numbers.
func smallLeases() [][]Lease {
	some := []uint64{1, 2, 127, 128, 129, 255, 256}
	var singles []Lease
	for _, id := range some {
		for _, time := range some {
			for _, until := range append([]uint64{0}, some...) {
				singles = append(singles, Lease{id, time, until})
			}
		}
	}
	list := [][]Lease{nil}
	for _, x := range singles {
		list = append(list, []Lease{x})
		for _, y := range singles {
			if x.Id < y.Id {
				list = append(list, []Lease{x, y})
			}
		}
	}
	return list
}

func TestUnlikeOnesHaveUnlikeBytes(t *testing.T) {
	some := []string{"\x00", "\x01", "\x00\x00", "\x00\x01", "\x01\x00", "\x01\x01", "\x01\x01\x01", "\x80", "\x80\x01"}
	checkUnlike(t, append(goodLocks(), locks(some[3:7], starts, []int{1, 2}, []uint64{3, 129})...), Lock)
	checkUnlike(t, locks(some, []uint64{1, 127, 128, 129, 256}, []int{1, 2}, []uint64{0, 1, 127, 128, 129, 256}), Lock)
	checkUnlike(t, goodWrites(), Write)
	checkUnlike(t, smallLeases(), Leases)
}

// The shard lays all of these down as values of a store, which have at most MaxText bytes.
func TestBytesFitIntoAStore(t *testing.T) {
	far := uint64(1 << 40)
	lock, e := Lock(api.Lock{Primary: strings.Repeat("a", api.MaxKey), Start: far, Kind: api.KindDel, At: far})
	write, f := Write(api.Write{Start: far, Kind: api.KindRoll})
	leases, g := Leases([]Lease{{far - 4, far, far}, {far - 3, far, far}, {far - 2, far, far}, {far - 1, far, far}, {far, far, far}})
	if e != api.OK || f != api.OK || g != api.OK {
		t.Fatal(e, f, g)
	}
	for _, s := range []string{lock, write, leases} {
		if len(s) > api.MaxText {
			t.Errorf("%d bytes", len(s))
		}
	}
}

// R1, R3, R4: huge arguments end, arguments stay, answers share nothing, the same calls answer the same.

func TestHugeArguments(t *testing.T) {
	huge := make([]Lease, 1<<21)
	for i := range huge {
		huge[i] = Lease{uint64(i) + 1, 1, 1}
	}
	if s, e := Leases(huge); s != "" || e != api.ErrForm {
		t.Errorf("leases: %d bytes, %d", len(s), e)
	}
	for _, fill := range []string{"\x00", "\x01", "\x7f", "\x80", "\xff"} {
		text := strings.Repeat(fill, 1<<26)
		if s, e := Lock(api.Lock{Primary: text, Start: 1, Kind: 1}); s != "" || e != api.ErrForm {
			t.Errorf("lock of %x: %d bytes, %d", fill, len(s), e)
		}
		l, e := Unlock(text)
		w, f := Unwrite(text)
		list, g := Unlease(text)
		if l != (api.Lock{}) || w != (api.Write{}) || list != nil || e != api.ErrForm || f != api.ErrForm || g != api.ErrForm {
			t.Errorf("bytes of %x: %d, %d, %d", fill, e, f, g)
		}
	}
}

func TestNothingIsShared(t *testing.T) {
	for _, l := range goodLeases() {
		before := slices.Clone(l)
		s, _ := Leases(l)
		if !slices.Equal(l, before) {
			t.Fatal("the list was changed")
		}
		clear(l)
		first, _ := Unlease(s)
		clear(first)
		checkUnlease(t, s, before, api.OK)
		checkLeases(t, before, s, api.OK)
	}
}
