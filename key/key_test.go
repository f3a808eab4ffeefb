package key

import (
	"encoding/binary"
	"math"
	"slices"
	"strings"
	"testing"

	"scree/api"
)

var families = []int{api.CfLock, api.CfWrite, api.CfData, api.CfMeta}

var noFamilies = []int{0, 5, 6, 255, 256, 257, 258, 259, 260, 1 << 32, 1<<32 + 1, -1, -4, -255, math.MinInt, math.MaxInt}

var noUsers = []string{"", strings.Repeat("a", 25), strings.Repeat("\x00", 25), strings.Repeat("\xff", 26), strings.Repeat("b", 256), strings.Repeat("c", 257), strings.Repeat("d", 100000)}

var times = []uint64{0, 1, 2, 9, 255, 256, 300, 1<<32 - 1, 1 << 32, 1<<40 - 1, 1 << 40}

var noTimes = []uint64{1<<40 + 1, 1<<40 + 2, 1 << 41, 1 << 63, math.MaxUint64}

// users tells users' keys to try, in order: all short ones of bytes that matter, each single byte, and the longest ones.
func users() []string {
	letters := []string{"\x00", "\x01", "\x02", "a", "\xfe", "\xff"}
	list := []string{}
	front := []string{""}
	for range 4 {
		var longer []string
		for _, s := range front {
			for _, c := range letters {
				longer = append(longer, s+c)
			}
		}
		list = append(list, longer...)
		front = longer
	}
	for c := range 256 {
		list = append(list, string([]byte{byte(c)}))
	}
	for _, c := range letters {
		for _, size := range []int{12, 22, 23, 24} {
			list = append(list, strings.Repeat(c, size), strings.Repeat(c, size-1)+"\x00", "\x00"+strings.Repeat(c, size-1))
		}
	}
	slices.Sort(list)
	return slices.Compact(list)
}

// escapedAgain tells an escaped key as the words say it.
func escapedAgain(user string) string {
	return strings.ReplaceAll(user, "\x00", "\x00\xff") + "\x00\x01"
}

// storeAgain tells a store's key as the words say it.
func storeAgain(p Parts) string {
	s := string([]byte{byte(p.Cf)}) + escapedAgain(p.User)
	if p.Cf == api.CfLock {
		return s
	}
	return s + string(binary.BigEndian.AppendUint64(nil, math.MaxUint64-p.Time))
}

// allParts tells parts of store's keys in the order that P2.4 asks for.
func allParts() []Parts {
	var list []Parts
	for _, cf := range families {
		for _, user := range users() {
			if cf == api.CfLock {
				list = append(list, Parts{Cf: cf, User: user})
				continue
			}
			for _, time := range slices.Backward(times) {
				list = append(list, Parts{Cf: cf, User: user, Time: time})
			}
		}
	}
	return list
}

func must(t *testing.T, e api.Errno) {
	t.Helper()
	if e != api.OK {
		t.Fatalf("error %d", e)
	}
}

func checkUnescape(t *testing.T, s, user, rest string, e api.Errno) {
	t.Helper()
	if u, r, f := Unescape(s); u != user || r != rest || f != e {
		t.Errorf("Unescape(%x): %x, %x, %d; want %x, %x, %d", s, u, r, f, user, rest, e)
	}
}

func checkMake(t *testing.T, p Parts, s string, e api.Errno) {
	t.Helper()
	if m, f := Make(p); m != s || f != e {
		t.Errorf("Make(%+v): %x, %d; want %x, %d", p, m, f, s, e)
	}
}

func checkRead(t *testing.T, s string, p Parts, e api.Errno) {
	t.Helper()
	if q, f := Read(s); q != p || f != e {
		t.Errorf("Read(%x): %+v, %d; want %+v, %d", s, q, f, p, e)
	}
}

// P2.1: users' keys, and escaped ones.

func TestMay(t *testing.T) {
	for size := range 60 {
		for _, c := range []string{"\x00", "a", "\xff"} {
			user := strings.Repeat(c, size)
			if got, want := May(user), size >= 1 && size <= 24; got != want {
				t.Errorf("May(%d times %q): %v", size, c, got)
			}
		}
	}
	for _, user := range noUsers {
		if May(user) {
			t.Errorf("May of %d bytes", len(user))
		}
	}
}

func TestEscapeTable(t *testing.T) {
	for _, x := range []struct{ user, s string }{
		{"a", "a\x00\x01"},
		{"a\x00b", "a\x00\xffb\x00\x01"},
		{"\x00", "\x00\xff\x00\x01"},
		{"\x00\x00", "\x00\xff\x00\xff\x00\x01"},
		{"\x00\x01", "\x00\xff\x01\x00\x01"},
		{"\x00\xff", "\x00\xff\xff\x00\x01"},
		{"\x01", "\x01\x00\x01"},
		{"\xff", "\xff\x00\x01"},
		{"ü", "\xc3\xbc\x00\x01"},
		{strings.Repeat("\x00", 24), strings.Repeat("\x00\xff", 24) + "\x00\x01"},
		{strings.Repeat("\xff", 24), strings.Repeat("\xff", 24) + "\x00\x01"},
	} {
		if s, e := Escape(x.user); s != x.s || e != api.OK {
			t.Errorf("Escape(%x): %x, %d; want %x", x.user, s, e, x.s)
		}
		for _, rest := range []string{"", "\x00", "\x00\x01", "\xff", "\x01", "ab", x.s, strings.Repeat("z", 1000)} {
			checkUnescape(t, x.s+rest, x.user, rest, api.OK)
		}
	}
}

func TestEscapeByItsWords(t *testing.T) {
	for _, user := range users() {
		want := escapedAgain(user)
		if s, e := Escape(user); s != want || e != api.OK {
			t.Errorf("Escape(%x): %x, %d; want %x", user, s, e, want)
		}
		checkUnescape(t, want, user, "", api.OK)
		checkUnescape(t, want+"\x00\x01", user, "\x00\x01", api.OK)
	}
}

func TestEscapeWrong(t *testing.T) {
	for _, user := range noUsers {
		if s, e := Escape(user); s != "" || e != api.ErrKey {
			t.Errorf("Escape of %d bytes: %x, %d", len(user), s, e)
		}
		checkUnescape(t, escapedAgain(user), "", "", api.ErrForm)
		checkUnescape(t, escapedAgain(user)+"ab", "", "", api.ErrForm)
	}
}

func TestUnescapeCutOff(t *testing.T) {
	for _, user := range users() {
		s := escapedAgain(user)
		for i := range len(s) {
			checkUnescape(t, s[:i], "", "", api.ErrForm)
		}
	}
}

func TestUnescapeZeroAlone(t *testing.T) {
	for c := range 256 {
		if c == 1 || c == 255 {
			continue
		}
		s := "\x00" + string([]byte{byte(c)})
		for _, front := range []string{"", "a", "\x00\xff", strings.Repeat("a", 23), strings.Repeat("a", 24)} {
			checkUnescape(t, front+s, "", "", api.ErrForm)
			checkUnescape(t, front+s+"\x00\x01", "", "", api.ErrForm)
		}
	}
}

func TestUnescapeTooLong(t *testing.T) {
	for size := 25; size < 110; size++ {
		for _, c := range []string{"a", "\x00\xff", "\xff", "\x01"} {
			checkUnescape(t, strings.Repeat(c, size)+"\x00\x01", "", "", api.ErrForm)
		}
	}
	checkUnescape(t, strings.Repeat("a", 1<<20), "", "", api.ErrForm)
	checkUnescape(t, strings.Repeat("\x00\xff", 1<<20)+"\x00\x01", "", "", api.ErrForm)
}

// P2.2: store's keys.

func TestMakeTable(t *testing.T) {
	for _, x := range []struct {
		p Parts
		s string
	}{
		{Parts{Cf: api.CfLock, User: "a\x00b"}, "\x01a\x00\xffb\x00\x01"},
		{Parts{Cf: api.CfWrite, User: "a", Time: 300}, "\x02a\x00\x01\xff\xff\xff\xff\xff\xff\xfe\xd3"},
		{Parts{Cf: api.CfData, User: "a", Time: 0}, "\x03a\x00\x01\xff\xff\xff\xff\xff\xff\xff\xff"},
		{Parts{Cf: api.CfMeta, User: "\x00", Time: 1 << 40}, "\x04\x00\xff\x00\x01\xff\xff\xfe\xff\xff\xff\xff\xff"},
	} {
		checkMake(t, x.p, x.s, api.OK)
		checkRead(t, x.s, x.p, api.OK)
	}
}

func TestMakeByItsWords(t *testing.T) {
	for _, p := range allParts() {
		checkMake(t, p, storeAgain(p), api.OK)
		checkRead(t, storeAgain(p), p, api.OK)
	}
}

func TestMakeWrong(t *testing.T) {
	someTimes := append(slices.Clone(times), noTimes...)
	someUsers := append([]string{"a", "\x00"}, noUsers...)
	for _, cf := range noFamilies {
		for _, user := range someUsers {
			for _, time := range someTimes {
				checkMake(t, Parts{Cf: cf, User: user, Time: time}, "", api.ErrArg)
			}
		}
	}
	for _, cf := range families {
		for _, user := range noUsers {
			for _, time := range someTimes {
				checkMake(t, Parts{Cf: cf, User: user, Time: time}, "", api.ErrKey)
			}
		}
		for _, time := range noTimes {
			checkMake(t, Parts{Cf: cf, User: "a", Time: time}, "", api.ErrRange)
		}
	}
	for _, time := range times[1:] {
		checkMake(t, Parts{Cf: api.CfLock, User: "a", Time: time}, "", api.ErrRange)
	}
}

func TestReadCutOffOrLonger(t *testing.T) {
	for _, p := range allParts() {
		s := storeAgain(p)
		for i := range len(s) {
			checkRead(t, s[:i], Parts{}, api.ErrForm)
		}
		for _, rest := range []string{"\x00", "\x01", "x", "\xff", "\x00\x01", s} {
			checkRead(t, s+rest, Parts{}, api.ErrForm)
		}
	}
}

func TestReadFamilies(t *testing.T) {
	for cf := range 256 {
		bare := string([]byte{byte(cf)}) + "a\x00\x01"
		timed := bare + "\xff\xff\xff\xff\xff\xff\xff\xf6"
		switch {
		case cf == api.CfLock:
			checkRead(t, bare, Parts{Cf: cf, User: "a"}, api.OK)
			checkRead(t, timed, Parts{}, api.ErrForm)
		case cf >= api.CfWrite && cf <= api.CfMeta:
			checkRead(t, bare, Parts{}, api.ErrForm)
			checkRead(t, timed, Parts{Cf: cf, User: "a", Time: 9}, api.OK)
		default:
			checkRead(t, bare, Parts{}, api.ErrForm)
			checkRead(t, timed, Parts{}, api.ErrForm)
		}
	}
}

func TestReadWrong(t *testing.T) {
	for _, cf := range families {
		for _, user := range noUsers {
			checkRead(t, storeAgain(Parts{Cf: cf, User: user}), Parts{}, api.ErrForm)
		}
		if cf == api.CfLock {
			continue
		}
		for _, time := range noTimes {
			checkRead(t, storeAgain(Parts{Cf: cf, User: "a", Time: time}), Parts{}, api.ErrForm)
		}
	}
	for _, s := range []string{"", "\x01", "\x01\x00", "\x01\x00\x01", "\x01a", "\x01a\x00", "\x01a\x00\x00\x01", "\x01a\x00\x02", "a", "\x02\x00\x01\xff\xff\xff\xff\xff\xff\xff\xff"} {
		checkRead(t, s, Parts{}, api.ErrForm)
	}
}

// P2.3: where they begin and end.

func TestFirstAndBehind(t *testing.T) {
	for _, cf := range families {
		for _, user := range users() {
			want := string([]byte{byte(cf)}) + escapedAgain(user)
			if s, e := First(cf, user); s != want || e != api.OK {
				t.Errorf("First(%d, %x): %x, %d; want %x", cf, user, s, e, want)
			}
			want = want[:len(want)-1] + "\x02"
			if s, e := Behind(cf, user); s != want || e != api.OK {
				t.Errorf("Behind(%d, %x): %x, %d; want %x", cf, user, s, e, want)
			}
		}
	}
}

func TestFirstAndBehindWrong(t *testing.T) {
	check := func(cf int, user string, want api.Errno) {
		t.Helper()
		if s, e := First(cf, user); s != "" || e != want {
			t.Errorf("First(%d, %d bytes): %x, %d; want %d", cf, len(user), s, e, want)
		}
		if s, e := Behind(cf, user); s != "" || e != want {
			t.Errorf("Behind(%d, %d bytes): %x, %d; want %d", cf, len(user), s, e, want)
		}
	}
	for _, cf := range noFamilies {
		check(cf, "a", api.ErrArg)
		for _, user := range noUsers {
			check(cf, user, api.ErrArg)
		}
	}
	for _, cf := range families {
		for _, user := range noUsers {
			check(cf, user, api.ErrKey)
		}
	}
}

func TestFamily(t *testing.T) {
	for cf, want := range map[int][2]string{api.CfLock: {"\x01", "\x02"}, api.CfWrite: {"\x02", "\x03"}, api.CfData: {"\x03", "\x04"}, api.CfMeta: {"\x04", "\x05"}} {
		if a, b, e := Family(cf); a != want[0] || b != want[1] || e != api.OK {
			t.Errorf("Family(%d): %x, %x, %d; want %x", cf, a, b, e, want)
		}
	}
	for _, cf := range noFamilies {
		if a, b, e := Family(cf); a != "" || b != "" || e != api.ErrArg {
			t.Errorf("Family(%d): %x, %x, %d", cf, a, b, e)
		}
	}
}

// checkBetween asks that exactly the keys that belong lie from first on and ahead of behind.
func checkBetween(t *testing.T, first, behind string, belongs func(Parts) bool) {
	t.Helper()
	for _, p := range allParts() {
		s, e := Make(p)
		must(t, e)
		if got, want := first <= s && s < behind, belongs(p); got != want {
			t.Errorf("%+v between %x and %x: %v", p, first, behind, got)
		}
	}
}

func TestBetween(t *testing.T) {
	for _, cf := range families {
		first, behind, e := Family(cf)
		must(t, e)
		checkBetween(t, first, behind, func(p Parts) bool { return p.Cf == cf })
		for _, user := range []string{"\x00", "\x00\x00", "\x01", "a", "a\x00", "a\x00\x01", "a\x01", "aa", "\xff", "\xff\xff", strings.Repeat("\x00", 24), strings.Repeat("\xff", 24)} {
			first, e := First(cf, user)
			must(t, e)
			behind, e := Behind(cf, user)
			must(t, e)
			checkBetween(t, first, behind, func(p Parts) bool { return p.Cf == cf && p.User == user })
		}
	}
}

// P2.4: what follows.

func TestOrder(t *testing.T) {
	last := ""
	for _, p := range allParts() {
		s, e := Make(p)
		must(t, e)
		if s <= last {
			t.Errorf("%+v: %x behind %x", p, s, last)
		}
		last = s
	}
}

func TestThereAndBack(t *testing.T) {
	for _, p := range allParts() {
		s, e := Make(p)
		must(t, e)
		checkRead(t, s, p, api.OK)
	}
}

func TestBackAndThere(t *testing.T) {
	n := uint64(1)
	next := func(limit uint64) uint64 {
		n = n*6364136223846793005 + 1442695040888963407
		return (n >> 33) % limit
	}
	letters := "\x00\x00\x00\x01\x02a\xff\xff"
	read := 0
	for range 200000 {
		b := []byte{byte(next(6))}
		for range next(8) {
			b = append(b, letters[next(uint64(len(letters)))])
		}
		if next(2) == 0 {
			b = append(b, "\x00\x01\xff\xff\xff\xff\xff\xff"...)
			b = append(b, byte(next(256)), byte(next(256)))
		}
		s := string(b)
		p, e := Read(s)
		if e != api.OK {
			checkRead(t, s, Parts{}, api.ErrForm)
			continue
		}
		read++
		checkMake(t, p, s, api.OK)
	}
	if read < 1000 {
		t.Errorf("only %d texts were store's keys", read)
	}
}

func TestNoBeginningOfOthers(t *testing.T) {
	all := map[string]Parts{}
	for _, p := range allParts() {
		s, e := Make(p)
		must(t, e)
		if q, twice := all[s]; twice {
			t.Errorf("%+v and %+v: %x", p, q, s)
		}
		all[s] = p
	}
	for s, p := range all {
		for i := range len(s) {
			if q, is := all[s[:i]]; is {
				t.Errorf("%+v begins with %+v: %x", p, q, s)
			}
		}
	}
}
