package table

import (
	"encoding/binary"
	"fmt"
	"math"
	"runtime"
	"slices"
	"strings"
	"testing"

	"scree/api"
	"scree/block"
	"scree/bloom"
)

func value(key string, seq uint64, v string) api.Entry {
	return api.Entry{Key: key, Seq: seq, Value: v}
}

func del(key string, seq uint64) api.Entry { return api.Entry{Key: key, Seq: seq, Del: true} }

func list(l ...api.Entry) []api.Entry { return l }

// What follows, up to fromByWords, is the chapter's words, by the library's means and without an eye to what it costs.

func aheadByWords(x api.Entry, key string, seq uint64) bool {
	c := strings.Compare(x.Key, key)
	return c < 0 || c == 0 && x.Seq > seq
}

func isTableByWords(l []api.Entry) bool {
	if len(l) == 0 || len(l) > 500 {
		return false
	}
	for i, x := range l {
		if x.Key == "" || len(x.Key) > 100 || len(x.Value) > 100 || x.Del && x.Value != "" || x.Seq == 0 || x.Seq > 1<<40 {
			return false
		}
		if i > 0 && !aheadByWords(l[i-1], x.Key, x.Seq) {
			return false
		}
	}
	return true
}

// long tells a number's long bytes.
func long(n int) string { return string(binary.BigEndian.AppendUint64(nil, uint64(n))) }

// short tells a number's short bytes.
func short(n uint64) string { return string(binary.AppendUvarint(nil, n)) }

// part is a block's row, and its bytes.
type part struct {
	l []api.Entry
	s string
}

// partsByWords tells the blocks, of so many entries each.
func partsByWords(l []api.Entry, size int) []part {
	var all []part
	for len(l) > 0 {
		n := min(size, len(l))
		s, e := block.Encode(l[:n])
		if e != api.OK {
			panic("no block")
		}
		all = append(all, part{l[:n], s})
		l = l[n:]
	}
	return all
}

// indexByWords tells an index's bytes.
func indexByWords(all []part) string {
	index, begin := short(uint64(len(all))), 0
	for _, p := range all {
		last := p.l[len(p.l)-1]
		index += short(uint64(len(last.Key))) + last.Key + short(last.Seq) + short(uint64(begin)) + short(uint64(len(p.s)))
		begin += len(p.s)
	}
	return index
}

// filterByWords tells the filter's bytes.
func filterByWords(l []api.Entry) string {
	var keys []string
	for _, x := range l {
		if !slices.Contains(keys, x.Key) {
			keys = append(keys, x.Key)
		}
	}
	slices.Sort(keys)
	filter, _ := bloom.Make(keys)
	return filter
}

// joined tells a table's bytes, of its pieces.
func joined(blocks, index, filter string, entries int) string {
	return blocks + index + filter + long(len(index)) + long(len(filter)) + long(entries) + "scree001"
}

// bytesBySize tells the bytes with blocks of so many entries.
func bytesBySize(l []api.Entry, size int) string {
	all := partsByWords(l, size)
	blocks := ""
	for _, p := range all {
		blocks += p.s
	}
	return joined(blocks, indexByWords(all), filterByWords(l), len(l))
}

// bytesByWords tells the bytes, whether they are of 1 to 500 entries or not.
func bytesByWords(l []api.Entry) string { return bytesBySize(l, 8) }

// openByWords tells the row whose bytes s are: by the blocks alone, which it finds by trying, and without a look at index and filter ahead of the end.
func openByWords(s string) ([]api.Entry, bool) {
	var l []api.Entry
	rest := s
	for {
		got, size := blockAheadOf(rest)
		if size == 0 {
			break
		}
		l, rest = append(l, got...), rest[size:]
	}
	return l, isTableByWords(l) && bytesByWords(l) == s
}

// blockAheadOf tells the block of up to 8 entries that bytes begin with, and how many bytes it has: no more than 0, if there is none.
func blockAheadOf(s string) ([]api.Entry, int) {
	for size := min(len(s), 8*(2+2*100+10+1)+24); size > 0; size-- { // no block is another one's beginning: it is the only one
		if l, e := block.Decode(s[:size]); e == api.OK && len(l) <= 8 {
			return l, size
		}
	}
	return nil, 0
}

func getByWords(l []api.Entry, key string, seq uint64) (api.Entry, bool) {
	for _, x := range l {
		if x.Key == key && x.Seq <= seq {
			return x, true
		}
	}
	return api.Entry{}, false
}

func costByWords(l []api.Entry, key string, seq uint64) int {
	all := true
	for _, x := range l {
		all = all && aheadByWords(x, key, seq)
	}
	if all || !bloom.May(filterByWords(l), key) {
		return 0
	}
	return 1
}

func fromByWords(l []api.Entry, key string, n int) []api.Entry {
	var out []api.Entry
	for _, x := range l {
		if x.Key >= key && len(out) < n {
			out = append(out, x)
		}
	}
	return out
}

// random draws numbers that are the same each time.
type random uint64

func (r *random) below(n int) int {
	*r = *r*6364136223846793005 + 1442695040888963407
	return int(uint64(*r)>>33) % n
}

// text draws a text of up to so many bytes, of few letters, so that many are alike.
func (r *random) text(most int) string {
	b := make([]byte, r.below(most+1))
	for i := range b {
		b[i] = "aab\xff"[r.below(4)]
	}
	return string(b)
}

// entries draws a row of up to so many entries, one at least.
func (r *random) entries(most int) []api.Entry {
	var l []api.Entry
	size := 1 + r.below(9)
	for range 1 + r.below(most) {
		x := value("a"+r.text(size), 1+uint64(r.below(5)), r.text(r.below(101)))
		if r.below(5) == 0 {
			x.Seq = api.MaxTime - x.Seq + 1
		}
		if r.below(3) == 0 {
			x.Del, x.Value = true, ""
		}
		l = append(l, x)
	}
	return inOrder(l)
}

// inOrder makes a row of entries.
func inOrder(l []api.Entry) []api.Entry {
	slices.SortStableFunc(l, func(a, b api.Entry) int {
		if aheadByWords(a, b.Key, b.Seq) {
			return -1
		}
		if aheadByWords(b, a.Key, a.Seq) {
			return 1
		}
		return 0
	})
	return slices.CompactFunc(l, func(a, b api.Entry) bool { return a.Key == b.Key && a.Seq == b.Seq })
}

// row tells so many entries: three of each key, and some taken away.
func row(n int) []api.Entry {
	var l []api.Entry
	for i := range n {
		l = append(l, value(fmt.Sprintf("key%03d", i/3), uint64(9-i%3*2), strings.Repeat("v", i%7)))
		if i%5 == 3 {
			l[i].Del, l[i].Value = true, ""
		}
	}
	return l
}

// apart tells so many entries of keys that differ.
func apart(n int) []api.Entry {
	var l []api.Entry
	for i := range n {
		l = append(l, value(fmt.Sprintf("%d", 1000+i), uint64(1+i%3), "x"))
	}
	return l
}

// oneKey tells so many entries of one key.
func oneKey(n int) []api.Entry {
	var l []api.Entry
	for i := range n {
		l = append(l, value("k", uint64(2*(n-i)), ""))
	}
	return l
}

// largest tells so many entries of as many bytes as may be.
func largest(n int) []api.Entry {
	var l []api.Entry
	for i := range n {
		l = append(l, value(fmt.Sprintf("%0100d", i), api.MaxTime, strings.Repeat("\xff", 100)))
	}
	return l
}

// samples tells rows to try: all edges of how many entries and blocks there are, of sizes and of numbers, and some by chance.
func samples() [][]api.Entry {
	var all [][]api.Entry
	for _, n := range []int{1, 2, 7, 8, 9, 15, 16, 17, 24, 25, 64, 100, 127 * 8, 492, 495, 496, 497, 499, 500} {
		n = min(n, 500)
		all = append(all, row(n), apart(n), oneKey(n))
	}
	all = append(all, largest(1), largest(9), largest(500))
	for _, size := range []int{1, 2, 99, 100} {
		for _, fill := range []string{"\x00", "\x01", "\x7f", "\x80", "\xff", "x"} {
			text := strings.Repeat(fill, size)
			all = append(all, list(value(text, 1, "")), list(value(text, api.MaxTime, text), del(text, 1)))
		}
	}
	for _, seq := range []uint64{1, 2, 127, 128, 300, 16383, 16384, 1<<32 - 1, 1 << 32, 1<<40 - 1, 1 << 40} {
		all = append(all, list(value("a", seq, "v")), list(del("a", seq), value("b", seq, "")))
	}
	for seed := range random(20) {
		all = append(all, seed.entries(60))
	}
	return all
}

// brief tells entries in not too many bytes.
func brief(l []api.Entry) string { return fmt.Sprintf("%.999s", fmt.Sprint(l)) }

// opened tells a table of bytes by the words.
func opened(t *testing.T, l []api.Entry) *Table {
	t.Helper()
	x, e := Open(bytesByWords(l))
	if e != api.OK || x == nil {
		t.Fatalf("Open of %d entries: %d", len(l), e)
	}
	return x
}

func checkBuild(t *testing.T, l []api.Entry, want string) {
	t.Helper()
	if s, e := Build(l); s != want || e != api.OK {
		t.Errorf("Build(%s): %.999q, %d; want %.999q", brief(l), s, e, want)
	}
}

func checkUnbuilt(t *testing.T, l []api.Entry) {
	t.Helper()
	if s, e := Build(l); s != "" || e != api.ErrForm {
		t.Errorf("Build(%s): %.200q, %d", brief(l), s, e)
	}
}

func checkUnopened(t *testing.T, s string) {
	t.Helper()
	if x, e := Open(s); x != nil || e != api.ErrForm {
		t.Errorf("Open(%.200q): %v, %d", s, x != nil, e)
	}
}

// checkRow holds what a table tells of all its entries against the row.
func checkRow(t *testing.T, x *Table, l []api.Entry) {
	t.Helper()
	if got := x.All(); !slices.Equal(got, l) {
		t.Errorf("All: %s; want %s", brief(got), brief(l))
	}
	if first, last := x.Ends(); first != l[0] || last != l[len(l)-1] {
		t.Errorf("Ends: %v, %v; want %v, %v", first, last, l[0], l[len(l)-1])
	}
	if n, blocks := x.Len(), x.Blocks(); n != len(l) || blocks != (len(l)+7)/8 {
		t.Errorf("Len, Blocks: %d, %d of %d entries", n, blocks, len(l))
	}
}

// checkGet holds Get and Cost against the words.
func checkGet(t *testing.T, x *Table, l []api.Entry, key string, seq uint64) {
	t.Helper()
	want, is := getByWords(l, key, seq)
	if got, found := x.Get(key, seq); got != want || found != is {
		t.Errorf("Get(%.200q, %d): %v, %v; want %v, %v", key, seq, got, found, want, is)
	}
	if n := x.Cost(key, seq); n != costByWords(l, key, seq) {
		t.Errorf("Cost(%.200q, %d): %d", key, seq, n)
	}
}

// checkFrom holds From against the words.
func checkFrom(t *testing.T, x *Table, l []api.Entry, key string, n int) {
	t.Helper()
	if got, want := x.From(key, n), fromByWords(l, key, n); !slices.Equal(got, want) {
		t.Errorf("From(%.200q, %d): %s; want %s", key, n, brief(got), brief(want))
	}
}

// checkBytes holds what is told of some bytes against the words.
func checkBytes(t *testing.T, s string) {
	t.Helper()
	l, right := openByWords(s)
	if !right {
		checkUnopened(t, s)
		return
	}
	x, e := Open(s)
	if e != api.OK {
		t.Errorf("Open(%.200q): %d", s, e)
		return
	}
	checkRow(t, x, l)
	checkBuild(t, l, s)
}

// P11.1: Build.

func TestBytes(t *testing.T) {
	l := list(value("a", 9, "xy"), del("a", 3), value("b", 300, ""))
	b := "\x00\x01a\x09\x00\x02xy" + "\x01\x00\x03\x01\x00" + "\x00\x01b\xac\x02\x00\x00" + long(0) + long(3)
	s := b + "\x01\x01b\xac\x02\x00\x24" + "000" + long(7) + long(3) + long(3) + "scree001"
	checkBuild(t, l, s)
	checkRow(t, opened(t, l), l)
	x, e := Open(s)
	if e != api.OK {
		t.Fatal(e)
	}
	checkRow(t, x, l)
}

func TestBytesOfTwoBlocks(t *testing.T) {
	var l []api.Entry
	for i := range 8 {
		l = append(l, value("a", uint64(9-i), ""))
	}
	l = append(l, value("b", 2, strings.Repeat("v", 100)))
	first := "\x00\x01a\x09\x00\x00" + "\x01\x00\x08\x00\x00" + "\x01\x00\x07\x00\x00" + "\x01\x00\x06\x00\x00" +
		"\x00\x01a\x05\x00\x00" + "\x01\x00\x04\x00\x00" + "\x01\x00\x03\x00\x00" + "\x01\x00\x02\x00\x00" + long(0) + long(21) + long(8) // 66 bytes
	second := "\x00\x01b\x02\x00\x64" + strings.Repeat("v", 100) + long(0) + long(1) // 122 bytes
	index := "\x02" + "\x01a\x02\x00\x42" + "\x01b\x02\x42\x7a"
	s := first + second + index + "000" + long(11) + long(3) + long(9) + "scree001"
	checkBuild(t, l, s)
	checkRow(t, opened(t, l), l)
	checkBuild(t, l[:8], first+"\x01\x01a\x02\x00\x42"+filterByWords(l[:8])+long(6)+long(2)+long(8)+"scree001")
}

func TestExample(t *testing.T) {
	l := row(9)
	x := opened(t, l)
	if x.Blocks() != 2 || x.Cost(l[8].Key, l[8].Seq) != 1 || x.Cost(l[0].Key, l[0].Seq) != 1 {
		t.Errorf("%d, %d", x.Blocks(), x.Cost(l[8].Key, l[8].Seq))
	}
}

func TestEachKeyOnceInTheFilter(t *testing.T) {
	for _, l := range [][]api.Entry{oneKey(500), row(500), apart(500), oneKey(1)} {
		s, e := Build(l)
		keys := map[string]bool{}
		for _, x := range l {
			keys[x.Key] = true
		}
		n := len(s)
		if e != api.OK || s[n-24:n-16] != long(len(keys)+1) {
			t.Errorf("%d keys: %q, %d", len(keys), s[n-32:], e)
		}
	}
}

// wrongEntries are such as may not be in a block.
func wrongEntries() []api.Entry {
	many := strings.Repeat("m", 101)
	return list(
		value("", 1, ""), value("", 1, "v"), del("", 1), value(many, 1, ""), del(many, 1), value(strings.Repeat("m", 1<<20), 1, ""),
		value("m", 1, many), value("m", 1, strings.Repeat("v", 1<<20)), api.Entry{Key: "m", Seq: 1, Del: true, Value: "v"}, api.Entry{Key: "m", Seq: 1, Del: true, Value: "\x00"},
		value("m", 0, ""), del("m", 0), value("m", api.MaxTime+1, ""), del("m", api.MaxTime+1), value("m", math.MaxUint64, "v"),
	)
}

func TestBuildRefuses(t *testing.T) {
	checkUnbuilt(t, nil)
	checkUnbuilt(t, list())
	for _, n := range []int{501, 502, 504, 505, 600, 1000, 5000} {
		checkUnbuilt(t, row(n))
		checkUnbuilt(t, oneKey(n))
	}
	checkUnbuilt(t, oneKey(1<<20))
	for _, x := range wrongEntries() {
		checkUnbuilt(t, list(x))
		for _, n := range []int{2, 8, 9, 17} {
			for i := range n { // where it stands in a row of others
				l := row(n - 1)
				for j := i; j < len(l); j++ {
					l[j].Key = "z" + l[j].Key
				}
				checkUnbuilt(t, slices.Insert(l, i, x))
			}
		}
	}
	l := append(row(499), value("zz", 1, ""))
	checkBuild(t, l, bytesByWords(l))
	l[499].Seq = 0
	checkUnbuilt(t, l)
}

func TestBuildRefusesNoRows(t *testing.T) {
	for _, l := range [][]api.Entry{
		list(value("b", 1, ""), value("a", 1, "")), list(value("a", 1, ""), value("a", 2, "")), list(value("a", 1, ""), value("a", 1, "")), list(value("a", 1, "x"), del("a", 1)),
		list(value("aa", 9, ""), value("a", 1, "")), list(value("\xff", 1, ""), value("z", 1, "")), list(value("a\x00", 1, ""), value("a", 1, "")),
	} {
		checkUnbuilt(t, l)
	}
	for _, n := range []int{2, 8, 9, 16, 17, 40, 500} { // within a block, and from one to the next
		for i := range n - 1 {
			for _, l := range [][]api.Entry{row(n), apart(n), oneKey(n)} {
				l[i], l[i+1] = l[i+1], l[i]
				checkUnbuilt(t, l)
				l[i] = l[i+1]
				checkUnbuilt(t, l)
			}
		}
	}
}

// P11.1: Open.

func TestOpenRefuses(t *testing.T) {
	for _, s := range []string{
		"", "s", "scree001", long(0) + "scree001", long(0) + long(0) + "scree001", long(0) + long(0) + long(0) + "scree001", long(0) + long(0) + long(1) + "scree001",
		joined("", "", "", 0), joined("", "\x00", "", 0), joined("", "\x00", "\x00", 0), joined("", "\x00", "", 1), joined("", "\x01", "", 1), joined("", "\x01\x01a\x01\x00\x00", "\x00\x00", 1),
		long(-1) + long(-1) + long(-1) + "scree001", long(1<<62) + long(1<<62) + long(1<<62) + "scree001", long(math.MinInt64) + long(math.MinInt64) + long(1) + "scree001",
		"\x00" + long(1) + long(0) + long(0) + "scree001", "\x00" + long(0) + long(1) + long(0) + "scree001", "\x00" + long(1) + long(1) + long(0) + "scree001",
		bytesByWords(nil), bytesByWords(row(501)), bytesByWords(oneKey(501)), bytesByWords(oneKey(504)), bytesByWords(oneKey(505)), bytesByWords(oneKey(2000)),
	} {
		if _, right := openByWords(s); right {
			t.Errorf("%.200q is a table's", s)
		}
		checkUnopened(t, s)
	}
	for _, n := range []int{9, 16, 17, 40} { // blocks of as many entries as they don't have
		for _, size := range []int{1, 4, 7, 9, 16, 32} {
			if s := bytesBySize(row(n), size); s != bytesByWords(row(n)) {
				checkUnopened(t, s)
			}
		}
	}
	for _, n := range []int{9, 16, 17} { // no rows, of which the blocks are right
		for _, size := range []int{1, 8} {
			all := partsByWords(row(n), size)
			slices.Reverse(all)
			var l []api.Entry
			blocks := ""
			for _, p := range all {
				l, blocks = append(l, p.l...), blocks+p.s
			}
			checkUnopened(t, joined(blocks, indexByWords(all), filterByWords(l), n))
			checkUnopened(t, joined(blocks+blocks, indexByWords(append(all, all...)), filterByWords(l), 2*n))
		}
	}
}

func TestOpenWithPiecesChanged(t *testing.T) {
	l := row(20)
	all := partsByWords(l, 8)
	a, b, c := all[0].s, all[1].s, all[2].s
	blocks, index, filter := a+b+c, indexByWords(all), filterByWords(l)
	if s := joined(blocks, index, filter, 20); s != bytesByWords(l) {
		t.Fatalf("%q", s)
	}
	begin := func(s string, n int) string { return s + short(uint64(n)) }
	of := func(i int) string {
		return begin("\x06"+all[i].l[len(all[i].l)-1].Key, int(all[i].l[len(all[i].l)-1].Seq))
	}
	first, second, third := of(0)+"\x00"+short(uint64(len(a))), begin(of(1), len(a))+short(uint64(len(b))), begin(of(2), len(a)+len(b))+short(uint64(len(c)))
	if index != "\x03"+first+second+third {
		t.Fatalf("%q", index)
	}
	for i, s := range []string{
		joined(blocks, index, filter, 19), joined(blocks, index, filter, 21), joined(blocks, index, filter, 0), joined(blocks, index, filter, -1), joined(blocks, index, filter, 1<<62), joined(blocks, index, filter, math.MinInt64+20), // how many
		joined(blocks+"\x00", index, filter, 20), joined("\x00"+blocks, index, filter, 20), joined(a+"\x00"+b+c, index, filter, 20), joined(a+b+c+c, index, filter, 20), joined(a+b, index, filter, 20), joined(b+a+c, index, filter, 20), joined("", index, filter, 20), // the blocks
		joined(blocks, "\x02"+first+second, filter, 20), joined(blocks, "\x03"+first+second, filter, 20), joined(blocks, "\x02"+first+second+third, filter, 20), joined(blocks, "\x04"+first+second+third, filter, 20), joined(blocks, "\x04"+first+second+third+third, filter, 20), // the index
		joined(blocks, "\x83\x00"+first+second+third, filter, 20), joined(blocks, index+"\x00", filter, 20), joined(blocks, "", filter, 20), joined(blocks, "\x03"+second+first+third, filter, 20), joined(blocks, "\x03"+first+third+second, filter, 20), joined(blocks, "\x40"+strings.Repeat(first, 64), filter, 20),
		joined(blocks, "\x03"+"\x06key003"+first[7:]+second+third, filter, 20), joined(blocks, "\x03"+"\x05key00"+first[7:]+second+third, filter, 20), joined(blocks, "\x03"+first[:7]+"\x06"+first[8:]+second+third, filter, 20), joined(blocks, "\x03"+first[:7]+"\x08"+first[8:]+second+third, filter, 20), // a key, a number
		joined(blocks, "\x03"+first[:8]+"\x01"+first[9:]+second+third, filter, 20), joined(blocks, "\x03"+first[:8]+"\x80\x00"+first[9:]+second+third, filter, 20), joined(blocks, "\x03"+first+begin(of(1), len(a)-1)+short(uint64(len(b)))+third, filter, 20), joined(blocks, "\x03"+first+begin(of(1), len(a))+short(uint64(len(b)+1))+third, filter, 20), // where, how many bytes
		joined(blocks, "\x03"+first+second+begin(of(2), len(a)+len(b))+short(uint64(len(c)+1)), filter, 20), joined(blocks, "\x03"+first+second+begin(of(2), len(a)+len(b))+short(math.MaxUint64), filter, 20), joined(blocks, "\x03"+first+second+of(2)+short(math.MaxUint64)+short(uint64(len(c))), filter, 20), joined(blocks, "\x03"+first+second+of(2)+short(1<<63)+short(1<<63), filter, 20),
		joined(blocks, "\x03"+first+second+short(math.MaxUint64)+third[1:], filter, 20), joined(blocks, "\x03"+first+second+third[:len(third)-1], filter, 20), joined(blocks, strings.Repeat("\x80", 9)+"\x01"+first+second+third, filter, 20),
		joined(blocks, index, filter+"\x00", 20), joined(blocks, index, filter[1:], 20), joined(blocks, index, "", 20), joined(blocks, index, strings.Repeat("\xff", len(filter)), 20), joined(blocks, index, strings.Repeat("\x00", len(filter)), 20), // the filter
		blocks + index + filter + long(len(index)) + long(len(filter)) + long(20), blocks + index + filter + long(len(index)) + long(len(filter)) + long(20) + "scree002", blocks + index + filter + long(len(index)) + long(len(filter)) + long(20) + "Scree001", // the foot
		blocks + index + filter + long(len(index)+1) + long(len(filter)-1) + long(20) + "scree001", blocks + index + filter + long(len(index)-1) + long(len(filter)+1) + long(20) + "scree001", blocks + index + filter + long(len(filter)) + long(len(index)) + long(20) + "scree001",
		blocks + index + filter + long(len(index)) + long(math.MaxInt64) + long(20) + "scree001", blocks + index + filter + long(-1) + long(len(filter)) + long(20) + "scree001", blocks + index + filter + long(len(index)+len(blocks)+1) + long(len(filter)) + long(20) + "scree001",
	} {
		if got, right := openByWords(s); right {
			t.Errorf("case %d is a table's: %v", i, got)
		}
		checkUnopened(t, s)
	}
	for bit := range 8 * len(filter) { // each bit of the filter turned
		f := []byte(filter)
		f[bit/8] ^= 1 << (bit % 8)
		checkUnopened(t, joined(blocks, index, string(f), 20))
	}
}

func TestOpenCutOffOrTooLong(t *testing.T) {
	for _, l := range [][]api.Entry{row(1), row(8), row(9), row(20), largest(2)} {
		s := bytesByWords(l)
		for i := range s {
			checkUnopened(t, s[:i])
			checkUnopened(t, s[i+1:])
			checkUnopened(t, s[:i]+s[i+1:])
		}
		for _, more := range []string{"\x00", "\x01", "x", long(0), long(1), "scree001", s} {
			checkUnopened(t, s+more)
			checkUnopened(t, more+s)
			for _, back := range []int{8, 16, 24, 32} {
				checkUnopened(t, s[:len(s)-back]+more+s[len(s)-back:])
			}
		}
	}
}

func TestOpenWithOneByteChanged(t *testing.T) {
	for _, l := range [][]api.Entry{row(1), list(value("a", 300, ""), value("a", 200, "\x00\x00"), value("a\x00", 1, "")), oneKey(9)} {
		s := bytesByWords(l)
		for i := range s {
			for c := range 256 {
				b := []byte(s)
				b[i] = byte(c)
				checkBytes(t, string(b))
			}
		}
	}
}

func TestOpenOfManyBytes(t *testing.T) { // also where they say that there are more blocks
	const size = 1 << 24
	first, e := block.Encode(row(8))
	if e != api.OK {
		t.Fatal(e)
	}
	many := short(math.MaxUint64) + strings.Repeat("\x00\x01\x00"+short(uint64(len(first))), size/4)
	for _, s := range []string{
		strings.Repeat("\x00", size), strings.Repeat("\xff", size), joined(strings.Repeat("\x00", size), "\x01\x01a\x01\x00"+short(size), "\x00\x00", 1),
		joined(first, many, "\x00\x00", 500), joined(first+strings.Repeat(long(8), size/8), strings.Repeat("\x3f", 1<<20), "\x00", 500), joined("", "\x01"+short(size)+strings.Repeat("k", size)+"\x01\x00\x00", "\x00\x00", 1),
		joined(strings.Repeat(long(32), size/8), "\x3f"+strings.Repeat("\x01a\x01\x00"+short(size), 63), "\x00\x00", 500), joined(first, "\x01\x01a\x01\x00"+short(uint64(len(first))), strings.Repeat("\xff", size), 8),
	} {
		var before, behind runtime.MemStats
		runtime.ReadMemStats(&before)
		checkUnopened(t, s)
		runtime.ReadMemStats(&behind)
		if n := behind.TotalAlloc - before.TotalAlloc; n > size/2 { // what bytes merely claim isn't laid out
			t.Errorf("%.20q: %d bytes of memory", s, n)
		}
	}
}

// P11.2: Get and Cost.

func TestGet(t *testing.T) {
	l := list(
		value("a", 9, "x"), value("a", 4, "y"), value("a\x00", 5, ""), value("aa", 3, "v"), value("b", api.MaxTime, "last"), del("b", 7), value("b", 1, "z"), value("c", 20, "0"),
		value("c", 19, "1"), value("c", 9, "2"), del("c", 2), value("d", 6, ""), value("e", 5, "e"), value("f", 1, ""), value("g", 7, ""), value("h", 7, "h"),
		value("\xff", 2, "end"),
	)
	x := opened(t, l)
	for _, c := range []struct {
		key  string
		seq  uint64
		want int
	}{
		{"a", math.MaxUint64, 0}, {"a", 10, 0}, {"a", 9, 0}, {"a", 8, 1}, {"a", 4, 1}, {"a\x00", 5, 2}, {"a\x00", 6, 2}, {"aa", 3, 3}, {"b", math.MaxUint64, 4}, {"b", api.MaxTime, 4},
		{"b", api.MaxTime - 1, 5}, {"b", 7, 5}, {"b", 6, 6}, {"b", 1, 6}, {"c", 21, 7}, {"c", 20, 7}, {"c", 19, 8}, {"c", 18, 9}, {"c", 9, 9}, {"c", 8, 10}, {"c", 2, 10},
		{"d", 6, 11}, {"d", 99, 11}, {"e", 5, 12}, {"f", 1, 13}, {"f", 2, 13}, {"g", 7, 14}, {"h", 7, 15}, {"h", math.MaxUint64, 15}, {"\xff", 2, 16}, {"\xff", 3, 16},
	} {
		if got, is := x.Get(c.key, c.seq); got != l[c.want] || !is {
			t.Errorf("Get(%q, %d): %v, %v; want %v", c.key, c.seq, got, is, l[c.want])
		}
		if n := x.Cost(c.key, c.seq); n != 1 {
			t.Errorf("Cost(%q, %d): %d", c.key, c.seq, n)
		}
	}
	for _, c := range []struct {
		key string
		seq uint64
	}{{"a", 3}, {"a", 0}, {"a\x00", 4}, {"aa", 2}, {"b", 0}, {"c", 1}, {"c", 0}, {"d", 5}, {"e", 4}, {"f", 0}, {"g", 6}, {"h", 6}, {"\xff", 1}, {"\xff", 0}} {
		if got, is := x.Get(c.key, c.seq); got != (api.Entry{}) || is {
			t.Errorf("Get(%q, %d): %v, %v", c.key, c.seq, got, is)
		}
		want := 1
		if c.key == "\xff" { // all entries are ahead
			want = 0
		}
		if n := x.Cost(c.key, c.seq); n != want {
			t.Errorf("Cost(%q, %d): %d", c.key, c.seq, n)
		}
	}
}

func TestWhatMayBeButIsNot(t *testing.T) {
	l := list(value("a", 5, "x"), value("b", 5, "y"))
	x := opened(t, l)
	for _, c := range []struct {
		key  string
		seq  uint64
		want int
	}{{"i", 9, 0}, {"i", 0, 0}, {"c", 9, 0}, {"A", 9, 0}, {"\x00", 9, 0}, {"", 9, 0}, {"b", 5, 1}, {"b", 4, 0}, {"a", 0, 1}, {"a", 9, 1}} { // of the filter "i" may be, but all are ahead of it
		if n := x.Cost(c.key, c.seq); n != c.want {
			t.Errorf("Cost(%q, %d): %d", c.key, c.seq, n)
		}
	}
	told := map[bool]int{}
	for i := range 3000 { // of those that aren't there, some may be by the filter
		for _, key := range []string{fmt.Sprintf("%d", i), fmt.Sprintf("a%d", i), fmt.Sprintf("c%d", i)} {
			checkGet(t, x, l, key, uint64(i%9))
			if got, is := x.Get(key, uint64(i%9)); is || got != (api.Entry{}) {
				t.Errorf("Get(%q): %v", key, got)
			}
			told[x.Cost(key, 9) == 1] += 1
		}
	}
	if told[true] == 0 || told[false] == 0 {
		t.Errorf("%v", told)
	}
}

// checkBeside asks for each entry, and what is beside it.
func checkBeside(t *testing.T, l []api.Entry, each int) {
	t.Helper()
	x := opened(t, l)
	for i := 0; i < len(l); i += each {
		y := l[i]
		for _, key := range []string{y.Key, y.Key + "\x00", y.Key[:len(y.Key)-1], y.Key[:len(y.Key)/2] + "b"} {
			for _, seq := range []uint64{y.Seq - 1, y.Seq, y.Seq + 1, 0, math.MaxUint64} {
				checkGet(t, x, l, key, seq)
			}
			for _, n := range []int{1, 3, 8, 9, 1000} {
				checkFrom(t, x, l, key, n)
			}
		}
	}
	for _, key := range []string{"", "\x00", strings.Repeat("\xff", 101), strings.Repeat("z", 1<<20)} {
		checkGet(t, x, l, key, 9)
		checkFrom(t, x, l, key, 9)
	}
}

func TestBeside(t *testing.T) {
	for _, l := range samples() {
		checkBeside(t, l, 1+len(l)/16)
	}
}

// P11.3: All, From, Ends, Len, Blocks.

func TestFrom(t *testing.T) {
	l := row(50)
	x := opened(t, l)
	for _, c := range []struct {
		key    string
		n      int
		at, to int
	}{
		{"", -1, 0, 0}, {"", math.MinInt, 0, 0}, {"", 0, 0, 0}, {"", 1, 0, 1}, {"", 7, 0, 7}, {"", 8, 0, 8}, {"", 9, 0, 9}, {"", 49, 0, 49}, {"", 50, 0, 50}, {"", 51, 0, 50}, {"", math.MaxInt, 0, 50},
		{"key000", 4, 0, 4}, {"key000\x00", 4, 3, 7}, {"key001", 4, 3, 7}, {"key002", 1, 6, 7}, {"key002", 3, 6, 9}, {"key002\x00", 20, 9, 29}, {"key005", 2, 15, 17}, {"key016", 9, 48, 50}, {"key016", 1, 48, 49},
		{"key016\x00", 9, 50, 50}, {"key017", 9, 50, 50}, {"key", 2, 0, 2}, {"key01", 2, 30, 32}, {"z", 9, 50, 50}, {"\xff", math.MaxInt, 50, 50}, {"key005", -5, 15, 15}, {"key005", 0, 15, 15},
	} {
		if got := x.From(c.key, c.n); !slices.Equal(got, l[c.at:c.to]) {
			t.Errorf("From(%q, %d): %v", c.key, c.n, got)
		}
	}
}

func TestFromAKeyOfManyBlocks(t *testing.T) {
	l := append(append(list(value("a", 1, "")), oneKey(40)...), value("m", 3, ""))
	x := opened(t, l)
	for n := range 45 {
		for _, key := range []string{"", "a", "b", "k", "k\x00", "m", "n"} {
			checkFrom(t, x, l, key, n)
		}
	}
}

func TestEnds(t *testing.T) {
	x := opened(t, list(value("a", 5, "v")))
	if first, last := x.Ends(); first != value("a", 5, "v") || last != first {
		t.Errorf("%v, %v", first, last)
	}
	for n := 1; n <= 500; n += 1 + n/50 {
		l := row(n)
		checkRow(t, opened(t, l), l)
	}
}

// P11.4: what follows.

func TestThereAndBack(t *testing.T) {
	for _, l := range samples() {
		if !isTableByWords(l) {
			t.Fatalf("%v is no table", l)
		}
		s := bytesByWords(l)
		checkBuild(t, l, s)
		x, e := Open(s)
		if e != api.OK {
			t.Fatalf("%v: %d", l, e)
		}
		checkRow(t, x, l)
		checkBuild(t, x.All(), s)
	}
}

func TestByChance(t *testing.T) {
	for seed := range 300 {
		r := random(seed)
		l := r.entries(40)
		s, e := Build(l)
		if s != bytesByWords(l) || e != api.OK {
			t.Fatalf("Build(%v): %q, %d", l, s, e)
		}
		x := opened(t, l)
		checkRow(t, x, l)
		for range 20 {
			y := l[r.below(len(l))]
			checkGet(t, x, l, y.Key, uint64(r.below(7)))
			checkGet(t, x, l, r.text(6), uint64(r.below(7)))
			checkFrom(t, x, l, r.text(6), r.below(45)-2)
		}
		for range 4 { // a byte is changed, comes or goes
			i := r.below(len(s))
			checkBytes(t, s[:i]+string([]byte{byte(r.below(256))})+s[i+r.below(2):])
			checkBytes(t, s[:i]+s[i+1:])
		}
	}
}

// The rules R3, R4 and R5.

func TestNothingIsShared(t *testing.T) {
	l := row(20)
	s, _ := Build(l)
	if !slices.Equal(l, row(20)) {
		t.Errorf("an argument: %v", l)
	}
	clear(l)
	x, e := Open(s)
	if e != api.OK {
		t.Fatal(e)
	}
	for range 2 { // what was told stays as it was, whatever is done to it
		all, some := x.All(), x.From("key001", 9)
		clear(all)
		_ = append(all[:1], value("q", 1, ""))
		clear(some)
		_ = append(some[:1], value("q", 1, ""))
		checkRow(t, x, row(20))
		checkFrom(t, x, row(20), "key001", 9)
		checkGet(t, x, row(20), "key003", 8)
	}
	y := opened(t, row(9))
	checkRow(t, x, row(20)) // one table knows nothing of another
	checkRow(t, y, row(9))
	checkBuild(t, row(20), s)
}

func FuzzOpen(f *testing.F) {
	for _, l := range [][]api.Entry{row(1), row(8), row(9), row(40)} {
		f.Add(bytesByWords(l), "key001", uint64(9), 3)
	}
	f.Add(joined("", "\x01\x01a\x01\x00\x00", "\x00\x00", 1), "a", uint64(1), 1)
	f.Add(long(-1)+long(-1)+long(-1)+"scree001", "", uint64(0), -1)
	f.Fuzz(func(t *testing.T, s, key string, seq uint64, n int) {
		checkBytes(t, s)
		if l, right := openByWords(s); right {
			x := opened(t, l)
			checkGet(t, x, l, key, seq)
			checkFrom(t, x, l, key, n)
		}
	})
}

func FuzzBuild(f *testing.F) {
	f.Add("a9xb3-c1z", uint64(7), "b", 2)
	f.Fuzz(func(t *testing.T, s string, seq uint64, key string, n int) {
		var l []api.Entry
		for i := 0; i+3 <= min(len(s), 300); i += 3 {
			l = append(l, api.Entry{Key: s[i : i+1+i%2], Seq: uint64(s[i+1]) ^ seq, Del: s[i+2]%2 == 0, Value: s[i+2 : i+2+int(s[i+2]%2)]})
		}
		for _, l := range [][]api.Entry{l, inOrder(slices.Clone(l))} {
			if !isTableByWords(l) {
				checkUnbuilt(t, l)
				continue
			}
			checkBuild(t, l, bytesByWords(l))
			x := opened(t, l)
			checkRow(t, x, l)
			checkGet(t, x, l, key, seq)
			checkGet(t, x, l, l[len(l)/2].Key, seq)
			checkFrom(t, x, l, key, n)
		}
	})
}
