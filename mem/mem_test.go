package mem

import (
	"bytes"
	"fmt"
	"math"
	"slices"
	"strings"
	"testing"

	"scree/api"
)

// laid is an entry with its height.
type laid struct {
	x api.Entry
	h int
}

func entry(key string, seq uint64) api.Entry { return api.Entry{Key: key, Seq: seq} }

func value(key string, seq uint64, v string) api.Entry {
	return api.Entry{Key: key, Seq: seq, Value: v}
}

func del(key string, seq uint64) api.Entry { return api.Entry{Key: key, Seq: seq, Del: true} }

// plain is a table without links: what was laid, sorted as the words say it.
type plain []laid

// comesAgain orders keys by their bytes, and of one key numbers, the greater one first.
func comesAgain(a, b laid) int {
	if c := bytes.Compare([]byte(a.x.Key), []byte(b.x.Key)); c != 0 {
		return c
	}
	switch {
	case a.x.Seq > b.x.Seq:
		return -1
	case a.x.Seq < b.x.Seq:
		return 1
	}
	return 0
}

// with tells the table with one more entry.
func (p plain) with(x api.Entry, h int) plain {
	q := append(slices.Clone(p), laid{x, h})
	slices.SortFunc(q, comesAgain)
	return q
}

func (p plain) all() []api.Entry {
	var l []api.Entry
	for _, y := range p {
		l = append(l, y.x)
	}
	return l
}

func (p plain) towers() []int {
	var l []int
	for _, y := range p {
		l = append(l, y.h)
	}
	return l
}

func (p plain) size() int {
	n := 0
	for _, y := range p {
		n += len(y.x.Key + y.x.Value)
	}
	return n
}

// get goes through all entries for the greatest number of a key that is small enough.
func (p plain) get(key string, seq uint64) (api.Entry, bool) {
	var best api.Entry
	found := false
	for _, y := range p {
		if y.x.Key == key && y.x.Seq <= seq && y.x.Seq > best.Seq {
			best, found = y.x, true
		}
	}
	return best, found
}

func (p plain) from(key string, n int) []api.Entry {
	var l []api.Entry
	for _, y := range p {
		if y.x.Key >= key && len(l) < n {
			l = append(l, y.x)
		}
	}
	return l
}

// steps searches by heights alone: in each level the entries that reach so high, behind the place that was come to.
func (p plain) steps(key string, seq uint64) int {
	n, place := 0, -1
	for h := 8; h >= 1; h-- {
		for i, y := range p {
			if i > place && y.h >= h && comesAgain(y, laid{entry(key, seq), 0}) < 0 {
				n++
				place = i
			}
		}
	}
	return n
}

// random is a row of numbers that looks like chance.
type random uint64

func (r *random) below(n int) int {
	*r = *r*6364136223846793005 + 1442695040888963407
	return int(uint64(*r)>>33) % n
}

// put lays entries that must be laid, each with a height.
func put(t *testing.T, x *Table, l ...laid) plain {
	t.Helper()
	var p plain
	for _, y := range l {
		checkPut(t, x, y.x, y.h, api.OK)
		p = p.with(y.x, y.h)
	}
	return p
}

func checkPut(t *testing.T, x *Table, y api.Entry, h int, want api.Errno) {
	t.Helper()
	if e := x.Put(y, h); e != want {
		t.Errorf("Put(%.20q, %d, %v, %.20q; %d): %d, not %d", y.Key, y.Seq, y.Del, y.Value, h, e, want)
	}
}

func checkGet(t *testing.T, x *Table, key string, seq uint64, want api.Entry, is bool) {
	t.Helper()
	if got, found := x.Get(key, seq); got != want || found != is {
		t.Errorf("Get(%.20q, %d): %v, %v, not %v, %v", key, seq, got, found, want, is)
	}
}

func checkFrom(t *testing.T, x *Table, key string, n int, want []api.Entry) {
	t.Helper()
	if got := x.From(key, n); !slices.Equal(got, want) {
		t.Errorf("From(%.20q, %d): %v, not %v", key, n, got, want)
	}
}

func checkSteps(t *testing.T, x *Table, key string, seq uint64, want int) {
	t.Helper()
	if got := x.Steps(key, seq); got != want {
		t.Errorf("Steps(%.20q, %d): %d, not %d", key, seq, got, want)
	}
}

// checkIs holds what a table tells of itself against what it should.
func checkIs(t *testing.T, x *Table, p plain) {
	t.Helper()
	if got := x.All(); !slices.Equal(got, p.all()) {
		t.Errorf("All: %v, not %v", got, p.all())
	}
	if got := x.Towers(); !slices.Equal(got, p.towers()) {
		t.Errorf("Towers: %v, not %v", got, p.towers())
	}
	if x.Len() != len(p) || x.Size() != p.size() {
		t.Errorf("Len, Size: %d, %d, not %d, %d", x.Len(), x.Size(), len(p), p.size())
	}
}

// checkAsked holds what a table tells of keys and numbers against what it should.
func checkAsked(t *testing.T, x *Table, p plain, keys []string, seqs []uint64) {
	t.Helper()
	for _, key := range keys {
		for _, seq := range seqs {
			want, is := p.get(key, seq)
			checkGet(t, x, key, seq, want, is)
			checkSteps(t, x, key, seq, p.steps(key, seq))
		}
		for _, n := range []int{-1, 0, 1, 2, len(p), math.MaxInt} {
			checkFrom(t, x, key, n, p.from(key, n))
		}
	}
}

// keysBeside tells a table's keys, and texts that are beside them.
func keysBeside(p plain) []string {
	list := []string{"", "\x00", "\xff", "zzzz", strings.Repeat("z", 300)}
	for _, y := range p {
		list = append(list, y.x.Key, y.x.Key+"\x00", y.x.Key[:len(y.x.Key)-1])
	}
	slices.Sort(list)
	return slices.Compact(list)
}

// seqsBeside tells a table's numbers, and numbers that are beside them.
func seqsBeside(p plain) []uint64 {
	list := []uint64{0, 1, api.MaxTime, api.MaxTime + 1, math.MaxUint64}
	for _, y := range p {
		list = append(list, y.x.Seq-1, y.x.Seq, y.x.Seq+1)
	}
	slices.Sort(list)
	return slices.Compact(list)
}

// checkWhole holds all that a table tells against what it should.
func checkWhole(t *testing.T, x *Table, p plain) {
	t.Helper()
	checkIs(t, x, p)
	checkAsked(t, x, p, keysBeside(p), seqsBeside(p))
}

// sample tells entries of some keys, such as are others' beginnings among them, with heights.
func sample() []laid {
	return []laid{
		{value("m", 5, "v"), 1}, {entry("m", 9), 3}, {del("a", 7), 2}, {entry("z", 1), 8}, {value("ma", 2, "xyz"), 1},
		{entry("m\x00", 4), 5}, {del("m", 1), 4}, {entry("\xff", api.MaxTime), 2}, {entry("\x00", 6), 6}, {entry("é", 8), 1},
	}
}

// P7.1: New.

func TestNew(t *testing.T) {
	x := New()
	if x == nil {
		t.Fatal("none")
	}
	checkWhole(t, x, nil)
	if MaxTower != 8 {
		t.Error(MaxTower)
	}
}

func TestTablesSideBySide(t *testing.T) {
	x, y := New(), New()
	p := put(t, x, laid{entry("a", 1), 1}, laid{entry("b", 2), 8})
	checkWhole(t, y, nil)
	q := put(t, y, laid{value("a", 1, "other"), 3})
	checkWhole(t, x, p)
	checkWhole(t, y, q)
	checkWhole(t, New(), nil)
}

// P7.1: Put.

func TestPut(t *testing.T) {
	x := New()
	var p plain
	for _, y := range sample() {
		checkPut(t, x, y.x, y.h, api.OK)
		p = p.with(y.x, y.h)
		checkWhole(t, x, p)
	}
}

func TestPutAtTheEdges(t *testing.T) {
	k, v := strings.Repeat("k", api.MaxText), strings.Repeat("v", api.MaxText)
	for _, y := range []api.Entry{
		value("k", 1, ""), value("k", api.MaxTime, ""), value("k", api.MaxTime-1, "v"),
		value(k, 1, "v"), value(k[1:], 1, "v"), value("k", 1, v), value("k", 1, v[1:]), value(k, api.MaxTime, v),
		del("k", 1), del(k, api.MaxTime), value("\x00", 1, "\x00"), value("\xff\xfe", 1, "\xff"),
	} {
		for h := 1; h <= MaxTower; h++ {
			x := New()
			checkWhole(t, x, put(t, x, laid{y, h}))
		}
	}
}

// wrongEntries tells entries that may not be.
func wrongEntries() []api.Entry {
	k, v := strings.Repeat("k", api.MaxText+1), strings.Repeat("v", api.MaxText+1)
	return []api.Entry{
		{}, entry("", 5), value("", 5, "v"), del("", 5),
		entry(k, 5), value(k, 5, "v"), del(k, 5), entry(strings.Repeat("k", 1<<20), 5),
		value("m", 5, v), value("m", 5, strings.Repeat("v", 1<<20)), value(k, 5, v),
		{Key: "m", Seq: 5, Del: true, Value: "v"}, {Key: "m", Seq: 5, Del: true, Value: "\x00"}, {Key: "m", Seq: 5, Del: true, Value: v},
		entry("m", 0), del("m", 0), value("m", 0, "v"),
		entry("m", api.MaxTime+1), del("m", api.MaxTime+1), entry("m", 1<<41), entry("m", 1<<63), entry("m", math.MaxUint64),
	}
}

// wrongHeights tells heights that may not be.
func wrongHeights() []int {
	return []int{0, -1, -8, MaxTower + 1, 16, 1 << 32, 1<<32 + 1, math.MinInt, math.MaxInt}
}

func TestPutWrong(t *testing.T) {
	x := New()
	p := put(t, x, sample()...)
	for _, y := range wrongEntries() {
		checkPut(t, x, y, 1, api.ErrForm)
		checkPut(t, x, y, MaxTower, api.ErrForm)
	}
	for _, h := range wrongHeights() {
		checkPut(t, x, entry("n", 3), h, api.ErrArg)
	}
	checkWhole(t, x, p)
	p = p.with(entry("n", 3), 4)
	checkPut(t, x, entry("n", 3), 4, api.OK)
	checkWhole(t, x, p)
}

func TestPutTwice(t *testing.T) {
	x := New()
	p := put(t, x, sample()...)
	for _, y := range sample() {
		for h := 1; h <= MaxTower; h++ {
			checkPut(t, x, y.x, h, api.ErrTwice)
			checkPut(t, x, del(y.x.Key, y.x.Seq), h, api.ErrTwice)
			checkPut(t, x, value(y.x.Key, y.x.Seq, "other"), h, api.ErrTwice)
		}
	}
	checkWhole(t, x, p)
	for _, y := range []api.Entry{entry("m", 4), entry("m", 6), entry("a", 6), entry("z", 2), entry("mb", 2), entry("l", 5)} {
		checkPut(t, x, y, 2, api.OK) // the same number, or the same key, is no second one
		p = p.with(y, 2)
	}
	checkWhole(t, x, p)
}

func TestPutNamesTheFirstError(t *testing.T) {
	x := New()
	p := put(t, x, laid{entry("m", 5), 1})
	for _, h := range wrongHeights() {
		for _, y := range wrongEntries() {
			checkPut(t, x, y, h, api.ErrForm)
		}
		checkPut(t, x, entry("m", 5), h, api.ErrArg)
		checkPut(t, x, api.Entry{Key: "m", Seq: 5, Del: true, Value: "v"}, h, api.ErrForm)
	}
	checkPut(t, x, value("m", 5, strings.Repeat("v", api.MaxText+1)), 1, api.ErrForm)
	checkWhole(t, x, p)
}

// P7.2: Get, All, From, Len, Size, Towers.

func TestExample(t *testing.T) {
	x := New()
	put(t, x, laid{entry("b", 3), 1}, laid{entry("a", 9), 2}, laid{entry("b", 7), 3})
	checkGet(t, x, "b", 5, entry("b", 3), true)
	if got := x.All(); !slices.Equal(got, []api.Entry{entry("a", 9), entry("b", 7), entry("b", 3)}) {
		t.Errorf("%v", got)
	}
	if got := x.Towers(); !slices.Equal(got, []int{2, 3, 1}) {
		t.Errorf("%v", got)
	}
}

func TestGet(t *testing.T) {
	x := New()
	put(t, x, laid{value("b", 3, "old"), 1}, laid{del("b", 7), 3}, laid{value("b", 9, "new"), 2}, laid{value("bb", 8, "other"), 1}, laid{entry("a", 100), 4})
	for _, seq := range []uint64{3, 4, 5, 6} {
		checkGet(t, x, "b", seq, value("b", 3, "old"), true)
	}
	for _, seq := range []uint64{7, 8} { // that it was taken away is an entry, too
		checkGet(t, x, "b", seq, del("b", 7), true)
	}
	for _, seq := range []uint64{9, 10, 99, 100, api.MaxTime, api.MaxTime + 1, math.MaxUint64} {
		checkGet(t, x, "b", seq, value("b", 9, "new"), true)
	}
	for _, seq := range []uint64{0, 1, 2} {
		checkGet(t, x, "b", seq, api.Entry{}, false)
	}
	for _, key := range []string{"", "\x00", "aa", "b\x00", "bbb", "c", "B", strings.Repeat("b", 101)} {
		checkGet(t, x, key, math.MaxUint64, api.Entry{}, false)
	}
}

func TestFrom(t *testing.T) {
	x := New()
	put(t, x, laid{entry("b", 3), 1}, laid{entry("a", 9), 2}, laid{entry("b", 7), 3}, laid{entry("c", 1), 1}, laid{entry("b", api.MaxTime), 1})
	all := []api.Entry{entry("a", 9), entry("b", api.MaxTime), entry("b", 7), entry("b", 3), entry("c", 1)}
	for key, want := range map[string][]api.Entry{
		"": all, "\x00": all, "a": all, "a\x00": all[1:], "aa": all[1:], "b": all[1:], "b\x00": all[4:], "bz": all[4:], "c": all[4:],
		"c\x00": nil, "d": nil, "\xff": nil, strings.Repeat("b", 200): all[4:],
	} {
		for n := range 7 {
			checkFrom(t, x, key, n, want[:min(n, len(want))])
		}
		checkFrom(t, x, key, math.MaxInt, want)
		checkFrom(t, x, key, -1, nil)
		checkFrom(t, x, key, math.MinInt, nil)
	}
}

func TestSize(t *testing.T) {
	x := New()
	put(t, x, laid{value("abc", 300, "xy"), 8})
	if x.Size() != 5 || x.Len() != 1 {
		t.Errorf("%d, %d", x.Size(), x.Len())
	}
	put(t, x, laid{del("abc", 301), 1}, laid{value("\x00é", 1, "\xff\x00"), 2})
	if x.Size() != 13 || x.Len() != 3 {
		t.Errorf("%d, %d", x.Size(), x.Len())
	}
}

func TestAnswersAreNew(t *testing.T) {
	x := New()
	p := put(t, x, sample()...)
	for range 2 {
		clear(x.All())
		clear(x.From("", math.MaxInt))
		clear(x.Towers())
		_ = append(x.All()[:1], entry("q", 1))
		_ = append(x.From("", 1), entry("q", 1))
		checkWhole(t, x, p)
	}
	before := x.All()
	put(t, x, laid{entry("b", 1), 1})
	if !slices.Equal(before, p.all()) { // what was told stays as it was
		t.Errorf("%v", before)
	}
}

func TestAskingChangesNothing(t *testing.T) {
	x, y := New(), New()
	var p plain
	for _, z := range sample() {
		checkPut(t, x, z.x, z.h, api.OK)
		checkPut(t, y, z.x, z.h, api.OK)
		p = p.with(z.x, z.h)
		checkWhole(t, x, p)
		checkWhole(t, x, p)
	}
	checkWhole(t, y, p)
}

// P7.3: Steps.

func TestStepsByHand(t *testing.T) {
	x := New()
	put(t, x, laid{entry("d", 1), 1}, laid{entry("b", 1), 1}, laid{entry("c", 5), 2}, laid{entry("a", 1), 2}, laid{entry("e", 1), 3}, laid{entry("c", 3), 1})
	for _, c := range []struct {
		key  string
		seq  uint64
		want int
	}{
		{"", 1, 0}, {"a", 2, 0}, {"a", 1, 0}, {"a", 0, 1}, {"b", 1, 1}, {"b", 0, 2},
		{"c", math.MaxUint64, 2}, {"c", 6, 2}, {"c", 5, 2}, {"c", 4, 2}, {"c", 3, 2}, {"c", 2, 3}, {"c", 0, 3},
		{"d", 1, 3}, {"d", 0, 4}, {"e", 1, 4}, {"e", 0, 1}, {"f", 9, 1},
	} {
		checkSteps(t, x, c.key, c.seq, c.want)
	}
}

func TestStepsOfOneHeight(t *testing.T) {
	for h := 1; h <= MaxTower; h++ {
		x := New()
		for i := range 50 {
			put(t, x, laid{entry(fmt.Sprintf("%02d", i), 1), h})
		}
		for i := range 51 { // nothing is skipped where all reach as high
			checkSteps(t, x, fmt.Sprintf("%02d", i), 1, i)
		}
	}
}

func TestStepsSkip(t *testing.T) {
	x := New()
	for i := range 256 { // the more often a number may be halved, the higher its tower
		h := 1
		for n := i; h < MaxTower && n%2 == 0; n /= 2 {
			h++
		}
		put(t, x, laid{entry(fmt.Sprintf("%03d", i), 1), h})
	}
	for i := range 257 {
		if n := x.Steps(fmt.Sprintf("%03d", i), 1); n > MaxTower+1 {
			t.Errorf("%d: %d", i, n)
		}
	}
	checkSteps(t, x, "128", 1, 8) // 0, 64, 96, 112, 120, 124, 126, 127
	checkSteps(t, x, "256", 1, 9) // 0, 128, 192, 224, 240, 248, 252, 254, 255
	checkSteps(t, x, "129", 1, 2) // 0, 128
}

// P7.4: whatever heights, and whatever order.

// orders goes through all orders of a list.
func orders(l []laid, yield func([]laid)) {
	if len(l) == 0 {
		yield(nil)
		return
	}
	for i := range l {
		rest := append(slices.Clone(l[:i]), l[i+1:]...)
		orders(rest, func(o []laid) { yield(append([]laid{l[i]}, o...)) })
	}
}

func TestAllOrders(t *testing.T) {
	list := []laid{{del("a", 2), 2}, {entry("ab", 4), 1}, {entry("b", 5), 3}, {entry("b", 3), 8}, {value("b", 1, "v"), 1}}
	n := 0
	orders(list, func(o []laid) {
		x := New()
		checkWhole(t, x, put(t, x, o...))
		n++
	})
	if n != 120 {
		t.Error(n)
	}
}

func TestAllHeights(t *testing.T) {
	keys := []api.Entry{entry("c", 1), entry("a", 1), entry("b", 2), entry("b", 1)}
	for n := range 8 * 8 * 8 * 8 {
		x := New()
		var p plain
		for i, y := range keys {
			h := 1 + n>>(3*i)%8
			checkPut(t, x, y, h, api.OK)
			p = p.with(y, h)
		}
		checkIs(t, x, p)
		checkAsked(t, x, p, []string{"a", "b", "c", "d"}, []uint64{0, 1, 2})
	}
}

func TestByChance(t *testing.T) {
	for seed := range 60 {
		r := random(seed)
		x := New()
		var p plain
		for range 60 {
			key := strings.Repeat(string(rune('a'+r.below(3))), 1+r.below(3))
			y := laid{entry(key, uint64(1+r.below(12))), 1 + r.below(1+r.below(MaxTower))}
			if r.below(3) == 0 {
				y.x.Del = true
			} else {
				y.x.Value = strings.Repeat("v", r.below(5))
			}
			if z, _ := p.get(y.x.Key, y.x.Seq); z.Seq == y.x.Seq {
				checkPut(t, x, y.x, y.h, api.ErrTwice)
				continue
			}
			checkPut(t, x, y.x, y.h, api.OK)
			p = p.with(y.x, y.h)
		}
		checkWhole(t, x, p)
	}
}

func TestMany(t *testing.T) {
	x := New()
	const count = 60000
	for i := range count {
		k := i * 7919 % count // each once, far from one another
		h := 1
		for n := k; h < MaxTower && n%4 == 0; n /= 4 {
			h++
		}
		checkPut(t, x, entry(fmt.Sprintf("%05d", k/3), uint64(1+k%3)), h, api.OK)
	}
	l := x.All()
	if len(l) != count || x.Len() != count || x.Size() != 5*count || len(x.Towers()) != count {
		t.Fatalf("%d, %d, %d", len(l), x.Len(), x.Size())
	}
	for i, y := range l {
		if y != entry(fmt.Sprintf("%05d", i/3), uint64(3-i%3)) {
			t.Fatalf("%d: %v", i, y)
		}
	}
}

func FuzzPuts(f *testing.F) {
	f.Add([]byte("b3\x01a9\x02b7\x03"))
	f.Fuzz(func(t *testing.T, b []byte) {
		x := New()
		var p plain
		for ; len(b) >= 3 && len(p) < 40; b = b[3:] {
			y, h := entry(string(b[:1]), uint64(b[1])), int(b[2])-1
			z, _ := p.get(y.Key, y.Seq)
			switch {
			case y.Seq == 0:
				checkPut(t, x, y, h, api.ErrForm)
			case h < 1 || h > 8:
				checkPut(t, x, y, h, api.ErrArg)
			case z.Seq == y.Seq:
				checkPut(t, x, y, h, api.ErrTwice)
			default:
				checkPut(t, x, y, h, api.OK)
				p = p.with(y, h)
			}
		}
		checkWhole(t, x, p)
	})
}
