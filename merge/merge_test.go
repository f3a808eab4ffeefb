package merge

import (
	"bytes"
	"fmt"
	"math"
	"slices"
	"strings"
	"testing"

	"scree/api"
)

func value(key string, seq uint64, v string) api.Entry {
	return api.Entry{Key: key, Seq: seq, Value: v}
}

func del(key string, seq uint64) api.Entry { return api.Entry{Key: key, Seq: seq, Del: true} }

func list(l ...api.Entry) []api.Entry { return l }

func rows(l ...[]api.Entry) [][]api.Entry { return l }

// What follows, up to getByWords, is the chapter's words, each taken by itself, without an eye to what it costs.

// compared orders keys by their bytes, and of one key numbers, the greater one first.
func compared(a, b api.Entry) int {
	if c := bytes.Compare([]byte(a.Key), []byte(b.Key)); c != 0 {
		return c
	}
	switch {
	case a.Seq > b.Seq:
		return -1
	case a.Seq < b.Seq:
		return 1
	}
	return 0
}

func rowByWords(l []api.Entry) bool {
	for i := range l {
		for j := range i {
			if compared(l[j], l[i]) >= 0 {
				return false
			}
		}
	}
	return true
}

// allByWords takes all entries of rows, each but once, and sorts them.
func allByWords(rows [][]api.Entry) []api.Entry {
	var l []api.Entry
	for _, row := range rows {
		for _, x := range row {
			if !slices.ContainsFunc(l, func(y api.Entry) bool { return compared(x, y) == 0 }) {
				l = append(l, x)
			}
		}
	}
	slices.SortFunc(l, compared)
	return l
}

// newer tells whether there is an entry of the same key with a greater number that is at most seq.
func newer(l []api.Entry, x api.Entry, seq uint64) bool {
	return slices.ContainsFunc(l, func(y api.Entry) bool { return y.Key == x.Key && y.Seq > x.Seq && y.Seq <= seq })
}

func only(l []api.Entry, keep func(api.Entry) bool) []api.Entry {
	var out []api.Entry
	for _, x := range l {
		if keep(x) {
			out = append(out, x)
		}
	}
	return out
}

func seenByWords(l []api.Entry, seq uint64) []api.Entry {
	return only(l, func(x api.Entry) bool { return x.Seq <= seq && !newer(l, x, seq) && !x.Del })
}

func newestByWords(l []api.Entry, least uint64) []api.Entry {
	return only(l, func(x api.Entry) bool { return !newer(l, x, least) })
}

func betweenByWords(l []api.Entry, from, to string) []api.Entry {
	return only(l, func(x api.Entry) bool {
		if bytes.Compare([]byte(x.Key), []byte(from)) < 0 {
			return false
		}
		return len(to) == 0 || bytes.Compare([]byte(x.Key), []byte(to)) < 0
	})
}

func getByWords(rows [][]api.Entry, key string, seq uint64) (api.Entry, bool) {
	var right [][]api.Entry
	for _, row := range rows {
		if rowByWords(row) {
			right = append(right, row)
		}
	}
	for _, x := range allByWords(right) {
		if x.Key == key && x.Seq <= seq {
			return x, true
		}
	}
	return api.Entry{}, false
}

// random draws numbers that are the same each time.
type random uint64

func (r *random) below(n int) int {
	*r = *r*6364136223846793005 + 1442695040888963407
	return int(uint64(*r)>>33) % n
}

// row draws a row whose values say where it comes from.
func (r *random) row(most int, mark string) []api.Entry {
	var l []api.Entry
	for range r.below(most + 1) {
		x := value(strings.Repeat(string(rune('a'+r.below(3))), 1+r.below(2)), uint64(r.below(9)), mark)
		x.Del = r.below(3) == 0
		l = append(l, x)
	}
	slices.SortStableFunc(l, compared)
	return slices.CompactFunc(l, func(a, b api.Entry) bool { return compared(a, b) == 0 })
}

// asked is a call and its arguments, that are written out only where something went wrong.
type asked struct {
	format string
	args   []any
}

func call(format string, args ...any) asked { return asked{format, args} }

func (a asked) String() string { return fmt.Sprintf(a.format, a.args...) }

func checkAnswer(t *testing.T, a asked, got []api.Entry, e api.Errno, want []api.Entry) {
	t.Helper()
	if !slices.Equal(got, want) || e != api.OK {
		t.Errorf("%v: %v, %d, not %v", a, got, e, want)
	}
}

func checkRefused(t *testing.T, a asked, got []api.Entry, e api.Errno) {
	t.Helper()
	if len(got) != 0 || e != api.ErrForm {
		t.Errorf("%v: %v, %d", a, got, e)
	}
}

func checkAll(t *testing.T, rows [][]api.Entry, want []api.Entry) {
	t.Helper()
	got, e := All(rows)
	checkAnswer(t, call("All(%v)", rows), got, e, want)
}

func checkSeen(t *testing.T, l []api.Entry, seq uint64, want []api.Entry) {
	t.Helper()
	got, e := Seen(l, seq)
	checkAnswer(t, call("Seen(%v, %d)", l, seq), got, e, want)
}

func checkNewest(t *testing.T, l []api.Entry, least uint64, want []api.Entry) {
	t.Helper()
	got, e := Newest(l, least)
	checkAnswer(t, call("Newest(%v, %d)", l, least), got, e, want)
}

func checkBetween(t *testing.T, l []api.Entry, from, to string, want []api.Entry) {
	t.Helper()
	got, e := Between(l, from, to)
	checkAnswer(t, call("Between(%v, %.20q, %.20q)", l, from, to), got, e, want)
}

func checkGet(t *testing.T, rows [][]api.Entry, key string, seq uint64, want api.Entry, is bool) {
	t.Helper()
	if got, found := Get(rows, key, seq); got != want || found != is {
		t.Errorf("Get(%v, %.20q, %d): %v, %v, not %v, %v", rows, key, seq, got, found, want, is)
	}
}

// keysBeside tells entries' keys, and texts that are beside them.
func keysBeside(l []api.Entry) []string {
	keys := []string{"", "\x00", "zz", "\xff", strings.Repeat("b", 300)}
	for _, x := range l {
		keys = append(keys, x.Key, x.Key+"\x00", x.Key[:len(x.Key)/2])
	}
	slices.Sort(keys)
	return slices.Compact(keys)
}

// seqsBeside tells entries' numbers, and numbers that are beside them.
func seqsBeside(l []api.Entry) []uint64 {
	seqs := []uint64{0, 1, api.MaxTime, math.MaxUint64}
	for _, x := range l {
		seqs = append(seqs, x.Seq-1, x.Seq, x.Seq+1)
	}
	slices.Sort(seqs)
	return slices.Compact(seqs)
}

// checkOne holds all that is told of one row against the words.
func checkOne(t *testing.T, l []api.Entry) {
	t.Helper()
	for _, seq := range seqsBeside(l) {
		checkSeen(t, l, seq, seenByWords(l, seq))
		checkNewest(t, l, seq, newestByWords(l, seq))
	}
	keys := keysBeside(l)
	for _, from := range keys {
		for _, to := range keys {
			checkBetween(t, l, from, to, betweenByWords(l, from, to))
		}
	}
}

// sample is a row with keys that are others' beginnings, the edges of numbers, and entries that were taken away, newer and older ones.
func sample() []api.Entry {
	return list(
		value("\x00", 6, "n"), value("a", 9, "new"), value("a", 4, "old"), value("a\x00", 5, ""), value("aa", 3, "v"), value("b", api.MaxTime, "last"), del("b", 7),
		value("b", 3, "x"), del("b", 1), value("c", 5, "y"), del("c", 4), value("c", 2, "z"), del("d", 2), value("é", 8, "é"), value("\xff", 1, "\xff"),
	)
}

// notRows tells lists that aren't rows.
func notRows() [][]api.Entry {
	return rows(
		list(value("b", 1, ""), value("a", 1, "")),                                         // keys fall
		list(value("a", 1, ""), value("a", 2, "")),                                         // numbers of one key rise
		list(value("a", 1, ""), value("a", 1, "")),                                         // one twice
		list(value("a", 1, "x"), value("a", 1, "y")), list(value("a", 1, ""), del("a", 1)), // what it says makes no other one of it
		list(value("aa", 9, ""), value("a", 1, "")), list(value("a\x00", 1, ""), value("a", 1, "")),
		list(value("\xff", 1, ""), value("z", 1, "")), list(value("a", 0, ""), value("", 9, "")), list(value("a", 0, ""), value("a", math.MaxUint64, "")),
		list(value("a", 3, ""), value("b", 2, ""), value("c", 1, ""), value("b", 1, "")), // the last one only
		list(value("a", 3, ""), value("a", 4, ""), value("b", 2, ""), value("c", 1, "")), // the first one only
		list(value("a", 3, ""), value("b", 3, ""), value("b", 3, ""), value("c", 1, "")),
	)
}

// P8.1: Row.

func TestRow(t *testing.T) {
	for _, l := range rows(
		nil, list(), list(value("a", 1, "")), sample(),
		list(value("a", 1, ""), value("b", 1, "")), list(value("a", 1, ""), value("b", 2, "")), list(value("a", 2, ""), value("b", 1, "")),
		list(value("a", 2, ""), value("a", 1, "")), list(del("a", 2), del("a", 1)), list(value("a", 1, ""), value("a\x00", 9, "")), list(value("z", 1, ""), value("\xff", 1, "")),
	) {
		if !Row(l) {
			t.Errorf("%v is a row", l)
		}
	}
	for _, l := range notRows() {
		if Row(l) {
			t.Errorf("%v is no row", l)
		}
	}
}

func TestRowIsOrderAlone(t *testing.T) { // whether an entry may be laid somewhere, others ask
	long := strings.Repeat("k", 1<<16)
	l := list(
		value("", math.MaxUint64, "v"), del("", 1), value("", 0, ""), api.Entry{Key: "a", Seq: api.MaxTime + 1, Del: true, Value: "v"},
		value("a", 0, ""), value(long, 1, long), value(long+"k", 1, ""),
	)
	if !Row(l) {
		t.Error("a row")
	}
	checkAll(t, rows(l), l)
	checkOne(t, l)
	checkGet(t, rows(l), "", 0, value("", 0, ""), true)
	checkGet(t, rows(l), "", math.MaxUint64, l[0], true)
	checkGet(t, rows(l), "a", math.MaxUint64, l[3], true)
}

func TestRowInAllOrders(t *testing.T) {
	n := 0
	orders(list(value("a", 2, ""), value("a", 1, ""), value("aa", 4, ""), value("b", 3, ""), del("b", 2)), func(l []api.Entry) {
		if Row(l) != rowByWords(l) {
			t.Errorf("%v", l)
		}
		if Row(l) {
			n++
		}
	})
	if n != 1 {
		t.Error(n)
	}
}

// P8.1: All.

func TestExample(t *testing.T) {
	x := list(value("a", 9, "x"), value("b", 3, "x"))
	y := list(value("a", 4, "y"), del("b", 3), value("c", 1, "y"))
	all := list(value("a", 9, "x"), value("a", 4, "y"), value("b", 3, "x"), value("c", 1, "y"))
	checkAll(t, rows(x, y), all)
	checkSeen(t, all, 5, all[1:])
	checkAll(t, rows(y, x), list(value("a", 9, "x"), value("a", 4, "y"), del("b", 3), value("c", 1, "y")))
}

func TestAll(t *testing.T) {
	s := sample()
	checkAll(t, nil, nil)
	checkAll(t, rows(), nil)
	checkAll(t, rows(nil), nil)
	checkAll(t, rows(nil, list(), nil), nil)
	checkAll(t, rows(s), s)
	checkAll(t, rows(nil, s, list()), s)
	checkAll(t, rows(s[:5], s[5:]), s)
	checkAll(t, rows(s[5:], s[:5]), s)
	var single [][]api.Entry
	for _, x := range s {
		single = append(single, list(x))
	}
	checkAll(t, single, s)
	slices.Reverse(single)
	checkAll(t, single, s)
}

func TestAllTakesTheFirstRow(t *testing.T) {
	x, y, z := list(del("b", 3)), list(value("b", 3, "y")), list(value("b", 4, "z"), value("b", 3, "z"), value("b", 2, "z"))
	checkAll(t, rows(x, y, z), list(z[0], x[0], z[2]))
	checkAll(t, rows(y, x, z), list(z[0], y[0], z[2]))
	checkAll(t, rows(z, x, y), z)
	checkAll(t, rows(nil, y, nil, z, x, y), list(z[0], y[0], z[2]))
	for n := 1; n <= 20; n++ { // however many have it
		var many [][]api.Entry
		for i := range n {
			many = append(many, list(value("a", uint64(n-i), "own"), value("b", 1, fmt.Sprint(i)), value("c", 1, fmt.Sprint(i))))
		}
		got, e := All(many)
		checkAnswer(t, call("All of %d rows", n), got[min(n, len(got)):], e, list(value("b", 1, "0"), value("c", 1, "0")))
	}
}

func TestAllRefuses(t *testing.T) {
	for _, bad := range notRows() {
		for _, l := range [][][]api.Entry{rows(bad), rows(bad, sample()), rows(sample(), bad), rows(nil, sample(), bad, sample()), rows(bad, bad)} {
			got, e := All(l)
			checkRefused(t, call("All(%v)", l), got, e)
		}
	}
}

func TestAllOfManyRows(t *testing.T) {
	const count, each = 20000, 10
	var many [][]api.Entry
	for i := range count {
		var l []api.Entry
		for j := range each {
			l = append(l, value(fmt.Sprintf("%d", j), uint64(i*7919%count), fmt.Sprint(i)))
		}
		many = append(many, l)
	}
	got, e := All(many)
	if len(got) != count*each || e != api.OK || !Row(got) {
		t.Fatalf("%d, %d", len(got), e)
	}
	same := make([][]api.Entry, 50000)
	for i := range same {
		same[i] = sample()
	}
	checkAll(t, same, sample())
}

// P8.1: Seen, Between.

func TestSeen(t *testing.T) {
	l := list(value("a", 9, "new"), value("a", 4, "old"), del("b", 7), value("b", 3, "x"), value("c", 5, "y"), del("c", 4), del("d", 2), value("e", 1, ""))
	for seq, want := range map[uint64][]api.Entry{
		0: nil, 1: list(l[7]), 2: list(l[7]), 3: list(l[3], l[7]), 4: list(l[1], l[3], l[7]), 5: list(l[1], l[3], l[4], l[7]), 6: list(l[1], l[3], l[4], l[7]),
		7: list(l[1], l[4], l[7]), 8: list(l[1], l[4], l[7]), 9: list(l[0], l[4], l[7]), api.MaxTime: list(l[0], l[4], l[7]), math.MaxUint64: list(l[0], l[4], l[7]),
	} {
		checkSeen(t, l, seq, want)
	}
	checkSeen(t, nil, 5, nil)
	checkSeen(t, list(), 5, nil)
}

func TestBetween(t *testing.T) {
	l := list(value("a", 9, "x"), del("a", 4), value("a\x00", 1, ""), del("b", 7), value("b", 3, "x"), value("\xff", 5, ""))
	for _, c := range []struct {
		from, to string
		want     []api.Entry
	}{
		{"", "", l}, {"a", "", l}, {"\x00", "", l}, {"a\x00", "", l[2:]}, {"aa", "", l[3:]}, {"b", "", l[3:]}, {"b\x00", "", l[5:]}, {"\xff", "", l[5:]}, {"\xff\x00", "", nil},
		{"", "a", nil}, {"", "a\x00", l[:2]}, {"", "b", l[:3]}, {"", "b\x00", l[:5]}, {"", "\xff", l[:5]}, {"", "\xff\x00", l},
		{"a", "a", nil}, {"a", "b", l[:3]}, {"a", "a\x00", l[:2]}, {"b", "a", nil}, {"b", "b\x00", l[3:5]}, {"c", "d", nil}, {"\xff", "a", nil},
	} {
		checkBetween(t, l, c.from, c.to, c.want)
	}
	checkBetween(t, nil, "", "", nil)
	checkBetween(t, list(), "a", "b", nil)
}

func TestNotRowsAreRefused(t *testing.T) {
	for _, bad := range notRows() {
		for _, seq := range []uint64{0, 1, 5, math.MaxUint64} {
			got, e := Seen(bad, seq)
			checkRefused(t, call("Seen(%v, %d)", bad, seq), got, e)
			got, e = Newest(bad, seq)
			checkRefused(t, call("Newest(%v, %d)", bad, seq), got, e)
		}
		for _, to := range []string{"", "a", "zz"} { // also where nothing is between
			got, e := Between(bad, "zz", to)
			checkRefused(t, call("Between(%v, zz, %q)", bad, to), got, e)
			got, e = Between(bad, "", to)
			checkRefused(t, call("Between(%v, , %q)", bad, to), got, e)
		}
	}
}

func TestSampleByWords(t *testing.T) { checkOne(t, sample()) }

// P8.2: Newest.

func TestNewest(t *testing.T) {
	l := list(value("a", 9, "new"), value("a", 4, "old"), value("a", 2, "older"), del("b", 7), value("b", 3, "x"), value("c", 5, "y"), del("c", 4), del("d", 2))
	for least, want := range map[uint64][]api.Entry{
		0: l, 1: l, 2: l, 3: l, 4: list(l[0], l[1], l[3], l[4], l[5], l[6], l[7]), 5: list(l[0], l[1], l[3], l[4], l[5], l[7]), 6: list(l[0], l[1], l[3], l[4], l[5], l[7]),
		7: list(l[0], l[1], l[3], l[5], l[7]), 8: list(l[0], l[1], l[3], l[5], l[7]), 9: list(l[0], l[3], l[5], l[7]),
		api.MaxTime: list(l[0], l[3], l[5], l[7]), math.MaxUint64: list(l[0], l[3], l[5], l[7]),
	} {
		checkNewest(t, l, least, want)
	}
	checkNewest(t, nil, 5, nil)
	checkNewest(t, list(), 5, nil)
}

func TestNewestKeepsWhatIsSeen(t *testing.T) {
	for seed := range 200 {
		r := random(seed)
		l := r.row(25, "v")
		for least := range uint64(11) {
			short, e := Newest(l, least)
			if e != api.OK || !Row(short) {
				t.Fatalf("Newest(%v, %d): %v, %d", l, least, short, e)
			}
			for seq := least; seq < 11; seq++ {
				checkSeen(t, short, seq, seenByWords(l, seq))
			}
			checkNewest(t, short, least, short) // a second time nothing goes
		}
	}
}

// P8.3: Get.

func TestGet(t *testing.T) {
	l := rows(
		list(value("a", 9, "x"), value("b", 3, "x")), list(value("a", 4, "y"), del("b", 3), value("c", 1, "y")),
		list(value("c", 2, "z"), value("a", 9, "z")), // isn't one
		nil, list(value("a", 6, "w"), del("e", 5), value("e", 2, "w")), list(value("b", 4, "v"), value("e", 2, "v"), value("f", 0, "v")),
	)
	for _, c := range []struct {
		key  string
		seq  uint64
		want api.Entry
	}{
		{"a", math.MaxUint64, value("a", 9, "x")}, {"a", 9, value("a", 9, "x")}, {"a", 8, value("a", 6, "w")}, {"a", 6, value("a", 6, "w")}, {"a", 5, value("a", 4, "y")}, {"a", 4, value("a", 4, "y")},
		{"b", 9, value("b", 4, "v")}, {"b", 3, value("b", 3, "x")}, {"c", 9, value("c", 1, "y")}, {"e", 5, del("e", 5)}, {"e", 4, value("e", 2, "w")}, {"f", 0, value("f", 0, "v")},
	} {
		checkGet(t, l, c.key, c.seq, c.want, true)
	}
	for key, seq := range map[string]uint64{"": 9, "a": 3, "b": 2, "c": 0, "d": 9, "e": 1, "aa": 9, "a\x00": 9, "g": 9, "\xff": math.MaxUint64} {
		checkGet(t, l, key, seq, api.Entry{}, false)
	}
	checkGet(t, nil, "a", 9, api.Entry{}, false)
	checkGet(t, rows(nil, list()), "", math.MaxUint64, api.Entry{}, false)
}

func TestGetOfTheOthers(t *testing.T) {
	for _, bad := range notRows() {
		for _, seq := range []uint64{0, 1, 9, math.MaxUint64} {
			for _, key := range []string{"", "a", "aa", "b", "c", "z", "\xff"} {
				checkGet(t, rows(bad), key, seq, api.Entry{}, false)
				checkGet(t, rows(bad, bad), key, seq, api.Entry{}, false)
				want, is := getByWords(rows(sample()), key, seq)
				checkGet(t, rows(bad, sample()), key, seq, want, is)
				checkGet(t, rows(sample(), bad), key, seq, want, is)
			}
		}
	}
}

// P8.4: what follows.

// subset is a row of those of four entries that the bits of n name.
func subset(n int, mark string) []api.Entry {
	var l []api.Entry
	for i, x := range list(value("a", 2, mark), value("a", 1, mark), value("b", 2, mark), value("b", 1, mark)) {
		if n>>i&1 == 1 {
			x.Del = (i+n)%3 == 0
			l = append(l, x)
		}
	}
	return l
}

func TestAllSmallRows(t *testing.T) {
	for n := range 16 * 16 * 16 {
		l := rows(subset(n%16, "x"), subset(n/16%16, "y"), subset(n/256, "z"))
		want := allByWords(l)
		checkAll(t, l, want)
		checkGrouped(t, l, want)
		for _, key := range []string{"a", "b", "c"} {
			for seq := range uint64(4) {
				x, is := getByWords(l, key, seq)
				checkGet(t, l, key, seq, x, is)
			}
		}
		for least := range uint64(4) {
			checkLeftOut(t, l, want, least)
		}
	}
}

// checkGrouped merges some rows that stand side by side first, in every way to cut them into groups.
func checkGrouped(t *testing.T, l [][]api.Entry, want []api.Entry) {
	t.Helper()
	for cuts := range 1 << max(len(l)-1, 0) {
		var groups, group [][]api.Entry
		for i, row := range l {
			group = append(group, row)
			if cuts>>i&1 == 1 || i == len(l)-1 {
				x, e := All(group)
				if e != api.OK {
					t.Fatalf("All(%v): %d", group, e)
				}
				groups, group = append(groups, x), nil
			}
		}
		checkAll(t, groups, want)
	}
}

// checkLeftOut leaves out of each row, and of all together, what Newest does, and sees the same at any number that isn't below.
func checkLeftOut(t *testing.T, l [][]api.Entry, all []api.Entry, least uint64) {
	t.Helper()
	var short [][]api.Entry
	for _, row := range l {
		x, _ := Newest(row, least)
		short = append(short, x)
	}
	behind, _ := All(short)
	once, _ := Newest(all, least)
	checkNewest(t, behind, least, once)
	for seq := least; seq < least+3; seq++ {
		want := seenByWords(all, seq)
		checkSeen(t, behind, seq, want)
		checkSeen(t, once, seq, want)
	}
}

func TestByChance(t *testing.T) {
	for seed := range 150 {
		r := random(seed)
		var l [][]api.Entry
		for i := range r.below(7) {
			l = append(l, r.row(12, fmt.Sprint(i)))
		}
		all := allByWords(l)
		checkAll(t, l, all)
		checkGrouped(t, l, all)
		checkOne(t, all)
		checkLeftOut(t, l, all, uint64(r.below(10)))
		for _, key := range keysBeside(all) {
			for _, seq := range seqsBeside(all) {
				x, is := getByWords(l, key, seq)
				checkGet(t, l, key, seq, x, is)
			}
		}
	}
}

// The rules R3 and R4.

func TestNothingIsShared(t *testing.T) {
	l := rows(sample(), sample()[3:9], nil)
	ask := func() [][]api.Entry {
		all, _ := All(l)
		one, _ := All(l[:1])
		seen, _ := Seen(l[0], 8)
		newest, _ := Newest(l[0], 0)
		between, _ := Between(l[0], "", "")
		return rows(all, one, seen, newest, between)
	}
	before := ask()
	for _, answer := range ask() {
		clear(answer)
		_ = append(answer[:1], value("q", 1, ""))
	}
	if !slices.Equal(l[0], sample()) || !slices.Equal(l[1], sample()[3:9]) || len(l) != 3 || len(l[2]) != 0 {
		t.Errorf("arguments: %v", l)
	}
	for i, answer := range ask() {
		if !slices.Equal(answer, before[i]) {
			t.Errorf("%v, then %v", before[i], answer)
		}
	}
	clear(l[0])
	if want := newestByWords(sample(), 0); !slices.Equal(before[3], want) { // what was told stays as it was
		t.Errorf("%v", before[3])
	}
	if !slices.Equal(before[0], sample()) || !slices.Equal(before[4], sample()) {
		t.Errorf("%v, %v", before[0], before[4])
	}
}

func FuzzRows(f *testing.F) {
	f.Add([]byte("a9b3-a4b3c1"), "a", uint64(5))
	f.Add([]byte("b1a1-a1"), "a", uint64('1'))
	f.Fuzz(func(t *testing.T, b []byte, key string, seq uint64) {
		var l [][]api.Entry
		right := true
		for i, part := range bytes.Split(b[:min(len(b), 200)], []byte("-")) {
			var row []api.Entry
			for ; len(part) >= 2; part = part[2:] {
				row = append(row, api.Entry{Key: string(part[:1]), Seq: uint64(part[1]), Del: part[1]%4 == 0, Value: fmt.Sprint(i)})
			}
			if Row(row) != rowByWords(row) {
				t.Fatalf("Row(%v)", row)
			}
			right = right && rowByWords(row)
			l = append(l, row)
		}
		x, is := getByWords(l, key, seq)
		checkGet(t, l, key, seq, x, is)
		if !right {
			got, e := All(l)
			checkRefused(t, call("All(%v)", l), got, e)
			return
		}
		all := allByWords(l)
		checkAll(t, l, all)
		checkSeen(t, all, seq, seenByWords(all, seq))
		checkNewest(t, all, seq, newestByWords(all, seq))
		checkBetween(t, all, key, "", betweenByWords(all, key, ""))
	})
}
