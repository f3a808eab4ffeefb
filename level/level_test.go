package level

import (
	"encoding/binary"
	"fmt"
	"math"
	"reflect"
	"runtime"
	"slices"
	"strings"
	"testing"

	"scree/api"
)

const top = 1 << 40 // MaxTime

// levels is what an edit brings.
type levels = [api.Levels][]api.Meta

// m is a table of the keys from first to last.
func m(file uint64, first, last string) api.Meta {
	return api.Meta{File: file, Size: 7, First: first, Last: last, Seq: 3}
}

// at brings some tables to one level.
func at(l int, list ...api.Meta) levels {
	var n levels
	n[l] = list
	return n
}

// model is a version by the chapter's words: tables in no order, and numbers.
type model struct {
	tables         []placed
	next, log, seq uint64
}

type placed struct {
	l int
	api.Meta
}

// What follows, up to decodeByWords, is the chapter's words, taken one by one, without an eye to what it costs.

func mayByWords(x api.Meta) bool {
	for _, n := range []int{int(x.File), x.Size, int(x.Seq)} { // no number in these tests is so great that it loses a bit
		if n < 1 || n > top {
			return false
		}
	}
	for _, s := range []string{x.First, x.Last} {
		if s == "" || len(s) > 100 {
			return false
		}
	}
	return strings.Compare(x.First, x.Last) <= 0
}

func meetByWords(first, last, otherFirst, otherLast string) bool {
	below := strings.Compare(last, otherFirst) < 0
	otherBelow := strings.Compare(otherLast, first) < 0
	return !below && !otherBelow
}

func metaMeets(x, y api.Meta) bool { return meetByWords(x.First, x.Last, y.First, y.Last) }

// listed tells an edit's tables with their levels.
func listed(e api.Edit) []placed {
	var out []placed
	for l, list := range e.New {
		for _, x := range list {
			out = append(out, placed{l, x})
		}
	}
	return out
}

func modelOf(v *Version) model {
	var n model
	for l := range api.Levels {
		for _, x := range v.Level(l) {
			n.tables = append(n.tables, placed{l, x})
		}
	}
	n.next, n.log, n.seq = v.Numbers()
	return n
}

// level tells a level in its order, which it is put in by choosing the first one each time.
func (n model) level(l int) []api.Meta {
	var left, out []api.Meta
	for _, x := range n.tables {
		if x.l == l {
			left = append(left, x.Meta)
		}
	}
	for len(left) > 0 {
		best := 0
		for i, x := range left {
			if l == 0 && x.File > left[best].File || l > 0 && x.First < left[best].First {
				best = i
			}
		}
		out = append(out, left[best])
		left = slices.Delete(left, best, best+1)
	}
	return out
}

// goneByWords tells what stays, and whether each that goes is there.
func (n model) goneByWords(gone []uint64) ([]placed, bool) {
	stay := slices.Clone(n.tables)
	for _, file := range gone {
		i := slices.IndexFunc(stay, func(x placed) bool { return x.File == file })
		if i < 0 {
			return nil, false
		}
		stay = slices.Delete(stay, i, i+1)
	}
	return stay, true
}

// numberByWords tells the number that comes, and whether it may.
func numberByWords(was, by uint64) (uint64, bool) {
	if by != 0 && (by < was || by > top) {
		return 0, false
	}
	if by == 0 {
		return was, true
	}
	return by, true
}

func (n model) rangeByWords(e api.Edit) (model, bool) {
	next, is := numberByWords(n.next, e.Next)
	log, isToo := numberByWords(n.log, e.Log)
	seq, isThree := numberByWords(n.seq, e.Seq)
	good := is && isToo && isThree
	for _, x := range listed(e) {
		good = good && x.File < next && x.Seq <= seq
	}
	return model{next: next, log: log, seq: seq}, good
}

// pairs tells whether any two of some tables are so.
func pairs(l []placed, are func(x, y placed) bool) bool {
	for i, x := range l {
		for _, y := range l[:i] {
			if are(x, y) {
				return true
			}
		}
	}
	return false
}

func applyByWords(n model, e api.Edit) (model, api.Errno) {
	for _, x := range listed(e) {
		if !mayByWords(x.Meta) {
			return model{}, api.ErrForm
		}
	}
	stay, are := n.goneByWords(e.Gone)
	if !are {
		return model{}, api.ErrNone
	}
	all := append(stay, listed(e)...)
	if pairs(all, func(x, y placed) bool { return x.File == y.File }) {
		return model{}, api.ErrTwice
	}
	out, good := n.rangeByWords(e)
	if !good {
		return model{}, api.ErrRange
	}
	var counts [4]int
	for _, x := range all {
		counts[x.l]++
	}
	if slices.Max(counts[:]) > 30 {
		return model{}, api.ErrMany
	}
	if pairs(all, func(x, y placed) bool { return x.l == y.l && x.l != 0 && metaMeets(x.Meta, y.Meta) }) {
		return model{}, api.ErrArg
	}
	out.tables = all
	return out, api.OK
}

// hull is the range of some tables.
func hull(l []api.Meta) (string, string) {
	first, last := l[0].First, l[0].Last
	for _, x := range l {
		first, last = min(first, x.First), max(last, x.Last)
	}
	return first, last
}

// meetingByWords tells those of a list that meet the range of some tables.
func meetingByWords(list, some []api.Meta) []api.Meta {
	first, last := hull(some)
	var out []api.Meta
	for _, x := range list {
		if meetByWords(x.First, x.Last, first, last) {
			out = append(out, x)
		}
	}
	return out
}

func pickByWords(n model, l, k int) (Pick, api.Errno) {
	if l < 0 || l > 2 || k < 0 {
		return Pick{}, api.ErrArg
	}
	list := n.level(l)
	if len(list) == 0 {
		return Pick{}, api.ErrNone
	}
	for k >= len(list) && k < 1000 { // counted round
		k -= len(list)
	}
	chosen := []int{k % len(list)}
	from := func() []api.Meta {
		var out []api.Meta
		for i, x := range list {
			if slices.Contains(chosen, i) {
				out = append(out, x)
			}
		}
		return out
	}
	for again := l == 0; again; {
		again = false
		for i, x := range list { // one after the other
			if !slices.Contains(chosen, i) && len(meetingByWords([]api.Meta{x}, from())) == 1 {
				chosen, again = append(chosen, i), true
			}
		}
	}
	p := Pick{Level: l, From: from(), Bottom: true}
	p.Into = meetingByWords(n.level(l+1), p.From)
	for _, x := range n.tables {
		if x.l > l+1 && len(meetingByWords([]api.Meta{x.Meta}, append(slices.Clone(p.From), p.Into...))) > 0 {
			p.Bottom = false
		}
	}
	return p, api.OK
}

// isEdit tells whether an edit has bytes.
func isEdit(e api.Edit) bool {
	good := e.Next <= top && e.Log <= top && e.Seq <= top && len(e.Gone) <= 120
	for _, n := range e.Gone {
		good = good && n <= top
	}
	for _, list := range e.New {
		good = good && len(list) <= 30
		for _, x := range list {
			good = good && mayByWords(x)
		}
	}
	return good
}

// bytesByWords tells the bytes, whether it is an edit that has some or not.
func bytesByWords(e api.Edit) string {
	var b []byte
	number := func(n int) { b = binary.AppendUvarint(b, uint64(n)) }
	text := func(s string) { number(len(s)); b = append(b, s...) }
	number(int(e.Next))
	number(int(e.Log))
	number(int(e.Seq))
	number(len(e.Gone))
	for _, n := range e.Gone {
		number(int(n))
	}
	for _, list := range e.New {
		number(len(list))
		for _, x := range list {
			number(int(x.File))
			number(x.Size)
			text(x.First)
			text(x.Last)
			number(int(x.Seq))
		}
	}
	return string(b)
}

// decodeByWords reads by the library's way, that takes more than may be, and holds the words' bytes against s.
func decodeByWords(s string) (api.Edit, api.Errno) {
	b, good := []byte(s), true
	number := func() uint64 {
		n, size := binary.Uvarint(b)
		if size <= 0 {
			good, b = false, nil
			return 0
		}
		b = b[size:]
		return n
	}
	text := func() string {
		n := number()
		if n > uint64(len(b)) {
			good, n = false, 0
		}
		out := string(b[:n])
		b = b[n:]
		return out
	}
	var e api.Edit
	e.Next, e.Log, e.Seq = number(), number(), number()
	for n := number(); n > 0 && good; n-- {
		e.Gone = append(e.Gone, number())
	}
	for l := range e.New {
		for n := number(); n > 0 && good; n-- {
			var x api.Meta
			x.File, x.Size = number(), int(number())
			x.First, x.Last = text(), text()
			x.Seq = number()
			e.New[l] = append(e.New[l], x)
		}
	}
	if !good || !isEdit(e) || bytesByWords(e) != s {
		return api.Edit{}, api.ErrForm
	}
	return e, api.OK
}

// plain tells an edit in which lists without anything are nil, which is the same.
func plain(e api.Edit) api.Edit {
	if len(e.Gone) == 0 {
		e.Gone = nil
	}
	for l := range e.New {
		if len(e.New[l]) == 0 {
			e.New[l] = nil
		}
	}
	return e
}

func sameEdit(a, b api.Edit) bool { return reflect.DeepEqual(plain(a), plain(b)) }

// cloned tells the same edit in lists of its own.
func cloned(e api.Edit) api.Edit {
	e.Gone = slices.Clone(e.Gone)
	for l := range e.New {
		e.New[l] = slices.Clone(e.New[l])
	}
	return e
}

func samePick(a, b Pick) bool {
	return a.Level == b.Level && a.Bottom == b.Bottom && slices.Equal(a.From, b.From) && slices.Equal(a.Into, b.Into)
}

// check holds all that a version tells of its tables against a model.
func check(t *testing.T, v *Version, n model) {
	t.Helper()
	var files []uint64
	e := api.Edit{Next: n.next, Log: n.log, Seq: n.seq}
	for l := range api.Levels {
		e.New[l] = n.level(l)
		if got := v.Level(l); !slices.Equal(got, e.New[l]) {
			t.Fatalf("Level(%d) of %v: %v", l, n, got)
		}
		for _, x := range e.New[l] {
			files = append(files, x.File)
		}
	}
	slices.Sort(files)
	if got := v.Files(); !slices.Equal(got, files) {
		t.Fatalf("Files() of %v: %v", n, got)
	}
	if next, log, seq := v.Numbers(); next != n.next || log != n.log || seq != n.seq {
		t.Fatalf("Numbers() of %v: %d, %d, %d", n, next, log, seq)
	}
	if got := v.Edit(); !sameEdit(got, e) || len(got.Gone) != 0 {
		t.Fatalf("Edit() of %v: %v", n, got)
	}
}

// checkPicks holds what is picked of a version against a model; P12.4: of both levels each table that may have a key of it is there.
func checkPicks(t *testing.T, v *Version, n model) {
	t.Helper()
	for l := -1; l <= api.Levels; l++ {
		for _, k := range []int{-1, 0, 1, 2, 3, 4, 5, 6, 7, 30, 31, math.MaxInt, math.MinInt} {
			want, f := pickByWords(n, l, k)
			p, e := v.Pick(l, k)
			if e != f || !samePick(p, want) {
				t.Fatalf("Pick(%d, %d) of %v: %v, %d, not %v, %d", l, k, n, p, e, want, f)
			}
			if e == api.OK {
				checkPicked(t, p, n)
			}
		}
	}
}

// checkPicked asks, table by table, whether one was left that should have been picked.
func checkPicked(t *testing.T, p Pick, n model) {
	t.Helper()
	both := append(slices.Clone(p.From), p.Into...)
	for _, x := range n.tables {
		for _, y := range both {
			switch picked := slices.Contains(both, x.Meta); {
			case !metaMeets(x.Meta, y) || picked:
			case x.l == p.Level && slices.Contains(p.From, y), x.l == p.Level+1, x.l > p.Level+1 && p.Bottom:
				t.Fatalf("%v of %v: %v meets %v", p, n, x, y)
			}
		}
	}
}

// checkMeet holds what meets a range against the words.
func checkMeet(t *testing.T, v *Version, n model, first, last string) {
	t.Helper()
	for l := -1; l <= api.Levels; l++ {
		var want []api.Meta
		for _, x := range n.level(l) {
			if meetByWords(x.First, x.Last, first, last) {
				want = append(want, x)
			}
		}
		if got := v.Meet(l, first, last); !slices.Equal(got, want) {
			t.Fatalf("Meet(%d, %q, %q) of %v: %v, not %v", l, first, last, n, got, want)
		}
	}
}

// checkApply applies an edit, and holds what comes of it against the words; v stays.
func checkApply(t *testing.T, v *Version, n model, e api.Edit) (*Version, model) {
	t.Helper()
	before := cloned(e)
	w, f := v.Apply(e)
	want, g := applyByWords(n, e)
	if f != g || (w == nil) != (f != api.OK) {
		t.Fatalf("Apply of %v to %v: %d, not %d", e, n, f, g)
	}
	if !sameEdit(e, before) {
		t.Fatalf("the argument: %v, then %v", before, e)
	}
	check(t, v, n)
	if f != api.OK {
		return v, n
	}
	check(t, w, want)
	return w, want
}

// made tells the version that comes of an edit, and its model.
func made(t *testing.T, e api.Edit) (*Version, model) {
	t.Helper()
	v, n := checkApply(t, New(), model{next: 1}, e)
	if next, _, _ := v.Numbers(); next != e.Next {
		t.Fatalf("%v can't be applied", e)
	}
	return v, n
}

// sample is a version with tables in all levels but one.
func sample() api.Edit {
	e := api.Edit{Next: 20, Log: 3, Seq: 9}
	e.New[0] = []api.Meta{m(7, "c", "f"), m(9, "a", "c"), m(8, "f", "g"), m(10, "x", "y")}
	e.New[1] = []api.Meta{m(3, "g", "i"), m(1, "b", "b"), m(2, "z", "z")}
	e.New[3] = []api.Meta{m(4, "a", "a"), m(5, "y", "y")}
	return e
}

// random draws numbers that are the same each time.
type random uint64

func (r *random) below(n int) int {
	*r = *r*6364136223846793005 + 1442695040888963407
	return int(uint64(*r)>>33) % n
}

// key draws one of few keys.
func (r *random) key() string {
	return string(rune('a'+r.below(8))) + strings.Repeat("\x00", r.below(2))
}

// meta draws a table of one of some files, now and then one that may not be.
func (r *random) meta(files int) api.Meta {
	x := api.Meta{File: uint64(1 + r.below(files)), Size: 1 + r.below(3), First: r.key(), Seq: uint64(1 + r.below(4))}
	x.Last = max(x.First, r.key())
	if r.below(3) > 0 {
		x.Last = x.First
	}
	switch r.below(60) {
	case 0:
		x.Size = 0
	case 1:
		x.First = "z"
	}
	return x
}

// edit draws an edit that can often be applied to a version with these files.
func (r *random) edit(files []uint64) api.Edit {
	e := api.Edit{Next: uint64(r.below(2) * 40), Seq: uint64(r.below(2) * 9), Log: uint64(r.below(3))}
	for range r.below(4) {
		switch {
		case r.below(9) == 0:
			e.Gone = append(e.Gone, uint64(r.below(40)))
		case len(files) > 0:
			e.Gone = append(e.Gone, files[r.below(len(files))])
		}
	}
	for range r.below(4) {
		l := r.below(api.Levels)
		e.New[l] = append(e.New[l], r.meta(39))
	}
	return e
}

// The chapter's example.

func TestExample(t *testing.T) {
	v, _ := made(t, api.Edit{Next: 10, Seq: 3, New: at(0, m(9, "a", "c"), m(8, "f", "g"), m(7, "c", "f"))})
	p, e := v.Pick(0, 0)
	if e != api.OK || len(p.From) != 3 || p.From[0].File != 9 || p.From[1].File != 8 || p.From[2].File != 7 || !p.Bottom || p.Level != 0 || len(p.Into) != 0 {
		t.Errorf("%v, %d", p, e)
	}
}

// The words: metas and ranges.

func TestMay(t *testing.T) {
	long, longer := strings.Repeat("k", 100), strings.Repeat("k", 101)
	good := api.Meta{File: 1, Size: 1, First: "k", Last: "k", Seq: 1}
	with := func(change func(x *api.Meta)) api.Meta {
		x := good
		change(&x)
		return x
	}
	for _, x := range []api.Meta{
		good, with(func(x *api.Meta) { x.File = top }), with(func(x *api.Meta) { x.Size = top }), with(func(x *api.Meta) { x.Seq = top }),
		with(func(x *api.Meta) { x.Last = "k\x00" }), with(func(x *api.Meta) { x.First, x.Last = long, long }), with(func(x *api.Meta) { x.Last = long }),
		with(func(x *api.Meta) { x.First, x.Last = "\x00", "\xff" }), with(func(x *api.Meta) { x.First = "\x00" }), {File: top, Size: top, First: long, Last: long, Seq: top},
	} {
		if !May(x) || !mayByWords(x) {
			t.Errorf("%v", x)
		}
	}
	for _, x := range []api.Meta{
		{}, with(func(x *api.Meta) { x.File = 0 }), with(func(x *api.Meta) { x.Size = 0 }), with(func(x *api.Meta) { x.Seq = 0 }), with(func(x *api.Meta) { x.Size = -1 }), with(func(x *api.Meta) { x.Size = math.MinInt }),
		with(func(x *api.Meta) { x.File = top + 1 }), with(func(x *api.Meta) { x.Size = top + 1 }), with(func(x *api.Meta) { x.Seq = top + 1 }),
		with(func(x *api.Meta) { x.File = math.MaxUint64 }), with(func(x *api.Meta) { x.Size = math.MaxInt }), with(func(x *api.Meta) { x.Seq = math.MaxUint64 }),
		with(func(x *api.Meta) { x.First = "" }), with(func(x *api.Meta) { x.Last = "" }), with(func(x *api.Meta) { x.First, x.Last = "", "" }),
		with(func(x *api.Meta) { x.First, x.Last = longer, longer }), with(func(x *api.Meta) { x.Last = longer }), with(func(x *api.Meta) { x.First, x.Last = "a"+long, "b" }),
		with(func(x *api.Meta) { x.First = "k\x00" }), with(func(x *api.Meta) { x.First = "l" }), with(func(x *api.Meta) { x.Last = "K" }), with(func(x *api.Meta) { x.First, x.Last = "\x80", "\x7f" }),
	} {
		if May(x) {
			t.Errorf("%v", x)
		}
	}
}

func TestNew(t *testing.T) {
	v := New()
	check(t, v, model{next: 1})
	checkPicks(t, v, model{next: 1})
	checkMeet(t, v, model{next: 1}, "a", "z")
	w, _ := v.Apply(sample())
	check(t, New(), model{next: 1}) // nothing is kept from version to version
	check(t, v, model{next: 1})
	check(t, w, modelOf(w))
}

// P12.1: Apply.

func TestApply(t *testing.T) {
	v, n := made(t, sample())
	for _, e := range []api.Edit{
		{}, {Gone: []uint64{}, New: levels{{}, {}, {}, {}}},
		{Gone: []uint64{9, 1}}, {Gone: []uint64{1, 9}}, {Gone: []uint64{7, 8, 9, 10, 1, 2, 3, 4, 5}}, {New: at(2, m(19, "a", "z"))}, {New: at(0, m(6, "a", "z"))}, {New: at(0, m(6, "a", "z"), m(11, "a", "z"))},
		{New: at(1, m(11, "c", "f"))}, {New: at(1, m(11, "c", "f"), m(6, "a", "a\x00"), m(12, "j", "y"))}, {Gone: []uint64{1}, New: at(1, m(11, "b", "c"))}, {Gone: []uint64{2}, New: at(3, m(2, "z", "z"))}, {Gone: []uint64{2}, New: at(1, m(2, "z", "zz"))},
		{Gone: []uint64{7, 8, 9, 1, 3}, New: at(1, m(11, "a", "e"), m(12, "f", "i"))},
		{Next: 20}, {Next: 21}, {Next: top}, {Log: 3}, {Log: 4}, {Log: top}, {Seq: 9}, {Seq: 10}, {Seq: top}, {Next: top, Log: top, Seq: top, New: at(2, api.Meta{File: top - 1, Size: top, First: "a", Last: "a", Seq: top})},
		{Next: 21, New: at(2, m(20, "a", "z"))}, {Seq: 10, New: at(2, api.Meta{File: 19, Size: 1, First: "a", Last: "a", Seq: 10})}, {New: at(2, api.Meta{File: 19, Size: 1, First: "a", Last: "a", Seq: 9})},
	} {
		w, f := v.Apply(e)
		if w == nil || f != api.OK {
			t.Errorf("%v: %d", e, f)
		}
		checkApply(t, v, n, e)
	}
}

func TestApplyRefuses(t *testing.T) {
	v, n := made(t, sample())
	for _, c := range []struct {
		f     api.Errno
		edits []api.Edit
	}{
		{api.ErrForm, []api.Edit{{New: at(0, api.Meta{})}, {New: at(1, m(0, "c", "c"))}, {New: at(2, m(11, "", "c"))}, {New: at(3, m(11, "d", "c"))}, {New: at(0, m(11, "a", "c"), m(top+1, "a", "c"))}}},
		{api.ErrNone, []api.Edit{{Gone: []uint64{6}}, {Gone: []uint64{0}}, {Gone: []uint64{20}}, {Gone: []uint64{math.MaxUint64}}, {Gone: []uint64{9, 9}}, {Gone: []uint64{9, 1, 9}}, {Gone: []uint64{9, 1, 77}}, {Gone: []uint64{11}, New: at(2, m(11, "a", "a"))}}},
		{api.ErrTwice, []api.Edit{{New: at(0, m(9, "a", "a"))}, {New: at(2, m(9, "a", "a"))}, {New: at(0, m(5, "a", "a"))}, {New: at(2, m(11, "a", "a"), m(11, "b", "b"))}, {New: levels{{m(11, "a", "a")}, {}, {m(11, "a", "a")}}}, {Gone: []uint64{9}, New: at(2, m(8, "a", "a"))}, {Gone: []uint64{9}, New: at(0, m(9, "a", "a"), m(9, "b", "b"))}}},
		{api.ErrRange, []api.Edit{{Next: 19}, {Next: 1}, {Next: top + 1}, {Next: math.MaxUint64}, {Log: 2}, {Log: top + 1}, {Log: math.MaxUint64}, {Seq: 8}, {Seq: top + 1}, {Seq: math.MaxUint64}}},
		{api.ErrRange, []api.Edit{{New: at(0, m(20, "a", "a"))}, {New: at(0, m(top, "a", "a"))}, {Next: 21, New: at(2, m(21, "a", "a"))}, {Next: top, New: at(2, m(top, "a", "a"))}, {New: at(0, api.Meta{File: 11, Size: 1, First: "a", Last: "a", Seq: 10})}, {Seq: 10, New: at(0, m(11, "a", "a"), api.Meta{File: 12, Size: 1, First: "a", Last: "a", Seq: 11})}}},
		{api.ErrArg, []api.Edit{{New: at(1, m(11, "b", "c"))}, {New: at(1, m(11, "b", "b"))}, {New: at(1, m(11, "c", "g"))}, {New: at(1, m(11, "i", "i"))}, {New: at(1, m(11, "a", "zz"))}, {New: at(2, m(11, "a", "c"), m(12, "c", "d"))}, {New: at(2, m(12, "a", "z"), m(11, "c", "d"))}, {New: at(3, m(12, "a", "z"))}, {Gone: []uint64{1}, New: at(1, m(11, "b", "g"))}}},
	} {
		for _, e := range c.edits {
			if w, f := v.Apply(e); w != nil || f != c.f {
				t.Errorf("%v: %v, %d", e, w, f)
			}
			checkApply(t, v, n, e)
		}
	}
}

// many tells so many tables side by side, with files from first on.
func many(count int, first uint64) []api.Meta {
	var l []api.Meta
	for i := range count {
		key := fmt.Sprintf("k%03d", i+int(first))
		l = append(l, m(first+uint64(i), key, key))
	}
	return l
}

func TestApplyOfMany(t *testing.T) {
	for l := range api.Levels {
		v, n := made(t, api.Edit{Next: 200, Seq: 3, New: at(l, many(30, 1)...)})
		if _, f := New().Apply(api.Edit{Next: 200, Seq: 3, New: at(l, many(31, 1)...)}); f != api.ErrMany {
			t.Errorf("level %d: %d", l, f)
		}
		for _, e := range []api.Edit{
			{New: at(l, many(1, 100)...)}, {Gone: []uint64{4}, New: at(l, many(1, 100)...)}, {Gone: []uint64{4}, New: at(l, many(2, 100)...)}, {New: at((l+1)%4, many(30, 100)...)}, {New: at((l+1)%4, many(31, 100)...)},
		} {
			checkApply(t, v, n, e)
		}
	}
	all := api.Edit{Next: 200, Seq: 3}
	var gone []uint64
	for l := range api.Levels {
		all.New[l] = many(30, uint64(1+30*l))
	}
	v, n := made(t, all)
	for i := range uint64(120) {
		gone = append(gone, 120-i)
	}
	checkApply(t, v, n, api.Edit{Gone: gone})
	checkApply(t, v, n, api.Edit{Gone: append(gone, 1)})
	checkApply(t, v, n, api.Edit{Gone: gone, New: all.New})
	checkPicks(t, v, n)
}

func TestApplyTellsTheFirstError(t *testing.T) {
	v, n := made(t, sample())
	wrongs := []struct {
		f   api.Errno
		put func(e *api.Edit)
	}{
		{api.ErrForm, func(e *api.Edit) { e.New[3] = append(e.New[3], api.Meta{}) }},
		{api.ErrNone, func(e *api.Edit) { e.Gone = append(e.Gone, 77) }},
		{api.ErrTwice, func(e *api.Edit) { e.New[2] = append(e.New[2], m(9, "k", "k")) }},
		{api.ErrRange, func(e *api.Edit) { e.Log = 1 }},
		{api.ErrMany, func(e *api.Edit) {
			for i := range uint64(31) {
				e.New[0] = append(e.New[0], m(100+i, "a", "b"))
			}
			e.Next = 200
		}},
		{api.ErrArg, func(e *api.Edit) { e.New[1] = append(e.New[1], m(11, "b", "c")) }},
	}
	for set := range 1 << len(wrongs) {
		var e api.Edit
		want := api.OK
		for i := range slices.Backward(wrongs) {
			if set>>i&1 == 1 {
				wrongs[i].put(&e)
				want = wrongs[i].f
			}
		}
		if _, f := v.Apply(e); f != want {
			t.Errorf("%b: %d, not %d", set, f, want)
		}
		checkApply(t, v, n, e)
	}
}

func TestApplyAllRangesOfTwo(t *testing.T) {
	var spans [][2]string
	for _, first := range []string{"a", "a\x00", "b", "c"} {
		for _, last := range []string{"a", "a\x00", "b", "c"} {
			if first <= last {
				spans = append(spans, [2]string{first, last})
			}
		}
	}
	for _, x := range spans {
		for _, y := range spans {
			for l := range api.Levels {
				e := api.Edit{Next: 9, Seq: 3, New: at(l, m(2, x[0], x[1]), m(5, y[0], y[1]))}
				v, n := checkApply(t, New(), model{next: 1}, e)
				checkPicks(t, v, n)
				w, n := checkApply(t, New(), model{next: 1}, api.Edit{Next: 9, Seq: 3, New: at(l, m(2, x[0], x[1]))})
				checkApply(t, w, n, api.Edit{New: at(l, m(5, y[0], y[1]))})
				for _, z := range spans {
					checkMeet(t, v, modelOf(v), z[0], z[1])
				}
			}
		}
	}
}

// P12.2: Meet, Pick.

func TestMeet(t *testing.T) {
	v, n := made(t, sample())
	keys := []string{"", "\x00", "a", "a\x00", "b", "c", "c\x00", "d", "f", "g", "g\x00", "i", "j", "x", "y", "y\xff", "z", "zz", "\xff"}
	for _, first := range keys {
		for _, last := range keys { // also ranges that end ahead of where they begin: the words ask for no more than that neither's last is below
			checkMeet(t, v, n, first, last)
		}
	}
	for _, l := range []int{-1, 4, math.MaxInt, math.MinInt} {
		if got, list := v.Meet(l, "a", "z"), v.Level(l); len(got) != 0 || len(list) != 0 {
			t.Errorf("%d: %v, %v", l, got, list)
		}
	}
}

func TestPick(t *testing.T) {
	v, n := made(t, sample())
	checkPicks(t, v, n)
	files := func(l []api.Meta) string {
		s := ""
		for _, x := range l {
			s += fmt.Sprint(x.File, " ")
		}
		return s
	}
	for _, c := range []struct {
		l, k       int
		from, into string
		bottom     bool
	}{{0, 0, "10 ", "", false}, {0, 1, "9 8 7 ", "1 3 ", false}, {0, 2, "9 8 7 ", "1 3 ", false}, {0, 7, "9 8 7 ", "1 3 ", false}, {0, 8, "10 ", "", false}, {1, 0, "1 ", "", true}, {1, 1, "3 ", "", true}, {1, 5, "2 ", "", true}} {
		p, e := v.Pick(c.l, c.k)
		if p.Level != c.l || files(p.From) != c.from || files(p.Into) != c.into || p.Bottom != c.bottom || e != api.OK {
			t.Errorf("Pick(%d, %d): %v, %d", c.l, c.k, p, e)
		}
	}
	for _, c := range []struct {
		l, k int
		e    api.Errno
	}{{-1, 0, api.ErrArg}, {3, 0, api.ErrArg}, {0, -1, api.ErrArg}, {2, -1, api.ErrArg}, {math.MaxInt, 0, api.ErrArg}, {math.MinInt, math.MinInt, api.ErrArg}, {2, 0, api.ErrNone}, {2, math.MaxInt, api.ErrNone}} {
		if p, e := v.Pick(c.l, c.k); e != c.e || !samePick(p, Pick{}) {
			t.Errorf("Pick(%d, %d): %v, %d", c.l, c.k, p, e)
		}
	}
}

// The bottom is asked of the range of all that is picked: a table two levels below may meet nothing but what is merged into.
func TestPickAtTheBottom(t *testing.T) {
	var e api.Edit
	e.Next, e.Seq = 9, 3
	e.New[0], e.New[1], e.New[3] = []api.Meta{m(1, "c", "d")}, []api.Meta{m(2, "a", "c")}, []api.Meta{m(3, "a", "b")}
	for _, c := range []struct {
		first, last string
		bottom      bool
	}{{"a", "b", false}, {"a", "a", false}, {"d", "d", false}, {"c\x00", "c\x00", false}, {"d\x00", "e", true}, {"\x00", "\x00", true}} {
		e.New[3] = []api.Meta{m(3, c.first, c.last)}
		v, n := made(t, e)
		checkPicks(t, v, n)
		if p, _ := v.Pick(0, 0); p.Bottom != c.bottom || len(p.Into) != 1 {
			t.Errorf("%v: %v", c, p)
		}
	}
}

// A chain is picked whole, from wherever it is begun, and so far that a table is reached by the range of all only.
func TestPickAlongChains(t *testing.T) {
	var l []api.Meta
	for i := range 30 {
		first := string(rune('a' + i*7%30))
		l = append(l, m(uint64(1+i), first, first+"z"))
	}
	for links := range 31 { // so many of the tables reach the next one
		for i := range l {
			l[i].Last = l[i].First + "z"
			if i*7%30 < links {
				l[i].Last = string(rune(l[i].First[0] + 1))
			}
		}
		v, n := made(t, api.Edit{Next: 99, Seq: 3, New: at(0, l...)})
		for k := range 30 {
			want, _ := pickByWords(n, 0, k)
			if p, e := v.Pick(0, k); e != api.OK || !samePick(p, want) {
				t.Fatalf("%d links, %d: %v, not %v", links, k, p, want)
			}
		}
	}
}

// Each three tables of level 0, with some below.
func TestPickOfAllThrees(t *testing.T) {
	keys := []string{"b", "c", "d", "e"}
	var spans [][2]string
	for i, first := range keys {
		for _, last := range keys[i:] {
			spans = append(spans, [2]string{first, last})
		}
	}
	for i := range len(spans) * len(spans) * len(spans) {
		x, y, z := spans[i%len(spans)], spans[i/len(spans)%len(spans)], spans[i/len(spans)/len(spans)]
		e := api.Edit{Next: 20, Seq: 3, New: at(0, m(7, x[0], x[1]), m(9, y[0], y[1]), m(8, z[0], z[1]))}
		e.New[1] = []api.Meta{m(1, "a", "b"), m(2, "d", "d"), m(3, "e\x00", "f")}
		e.New[2+i%2] = []api.Meta{m(4, "a", "a"), m(5, "c", "c"), m(6, "e", "e")}
		v, n := made(t, e)
		checkPicks(t, v, n)
	}
}

// P12.3: Encode, Decode.

// edits tells edits to try, all of which have bytes.
func edits() []api.Edit {
	long := strings.Repeat("\xff", 100)
	l := []api.Edit{
		{}, {Next: 1}, {Log: 1}, {Seq: 1}, {Next: 127, Log: 128, Seq: 16384}, {Next: top, Log: top, Seq: top}, {Gone: []uint64{0}}, {Gone: []uint64{300, 2}, Next: 5, Seq: 9, New: at(1, m(4, "a", "bc"))}, {Gone: []uint64{7, 7, top, 0}},
		{New: at(0, m(9, "a", "a"), m(9, "a", "a"))}, {New: at(3, m(2, "b", "c"), m(1, "a", "z"))}, {New: at(2, api.Meta{File: top, Size: top, First: long, Last: long, Seq: top})}, {New: at(1, m(1, "\x00", long))}, {Gone: slices.Repeat([]uint64{top}, 120)}, sample(),
	}
	for n := range api.Levels {
		l = append(l, api.Edit{New: at(n, many(30, 1)...)}, api.Edit{New: at(n, many(1, 1)...), Log: uint64(n)})
	}
	for seed := range 60 {
		r := random(seed)
		e := r.edit([]uint64{uint64(r.below(1 << 20)), top - uint64(r.below(5))})
		if isEdit(e) {
			l = append(l, e)
		}
	}
	return l
}

func checkDecode(t *testing.T, s string) {
	t.Helper()
	want, g := decodeByWords(s)
	if e, f := Decode(s); f != g || !sameEdit(e, want) {
		t.Fatalf("Decode(%q): %v, %d, not %v, %d", s, e, f, want, g)
	}
}

func TestBytes(t *testing.T) {
	e := api.Edit{Gone: []uint64{300, 2}, Next: 5, Log: 7, Seq: 9, New: at(1, m(4, "a", "bc"))}
	want := "\x05\x07\x09\x02\xac\x02\x02" + "\x00" + "\x01\x04\x07\x01a\x02bc\x03" + "\x00\x00"
	if s, f := Encode(e); s != want || f != api.OK {
		t.Errorf("%q, %d", s, f)
	}
	for _, e := range edits() {
		s, f := Encode(e)
		if f != api.OK || s != bytesByWords(e) {
			t.Fatalf("Encode(%v): %q, %d", e, s, f)
		}
		if back, f := Decode(s); f != api.OK || !sameEdit(back, e) {
			t.Fatalf("Decode(%q): %v, %d, not %v", s, back, f, e)
		}
		checkDecode(t, s)
	}
}

func TestEncodeRefuses(t *testing.T) {
	for _, e := range []api.Edit{
		{Next: top + 1}, {Log: top + 1}, {Seq: top + 1}, {Next: math.MaxUint64}, {Gone: []uint64{top + 1}}, {Gone: []uint64{1, math.MaxUint64, 2}}, {Gone: make([]uint64, 121)},
		{New: at(0, api.Meta{})}, {New: at(3, m(1, "a", "a"), m(1, "b", "a"))}, {New: at(1, m(0, "a", "a"))}, {New: at(2, m(1, "", "a"))}, {New: at(2, m(1, "a", strings.Repeat("b", 101)))},
		{New: at(0, many(31, 1)...)}, {New: at(1, many(31, 1)...)}, {New: at(2, many(31, 1)...)}, {New: at(3, many(31, 1)...)}, {New: at(3, api.Meta{File: 1, Size: -1, First: "a", Last: "a", Seq: 1})},
	} {
		if s, f := Encode(e); s != "" || f != api.ErrForm {
			t.Errorf("Encode(%v): %q, %d", e, s, f)
		}
	}
}

func TestDecodeRefuses(t *testing.T) {
	meta := "\x04\x07\x01a\x02bc\x03"
	wide := bytesByWords(api.Edit{New: at(0, many(31, 1)...)})
	for _, s := range []string{
		"", "\x00", "\x00\x00\x00", "\x00\x00\x00\x00\x00\x00\x00", "\x00\x00\x00\x00\x00\x00\x00\x00\x00", "\x80\x00\x00\x00\x00\x00\x00\x00\x00", "\x00\x00\x00\x01\x00\x00\x00\x00", "\x00\x00\x00\x79", bytesByWords(api.Edit{Gone: make([]uint64, 121)}), wide,
		"\x00\x00\x00\x00\x1f", "\x00\x00\x00\x00\xff\xff\xff\xff\xff\xff\xff\xff\xff\x01", "\x00\x00\x00\xff\xff\xff\xff\xff\xff\xff\xff\xff\x01", "\x00\x00\x00\x00\x02" + meta + "\x00\x00\x00",
		"\x00\x00\x00\x00\x01\x00\x07\x01a\x01a\x03\x00\x00\x00", "\x00\x00\x00\x00\x01\x04\x00\x01a\x01a\x03\x00\x00\x00", "\x00\x00\x00\x00\x01\x04\x07\x01a\x01a\x00\x00\x00\x00", "\x00\x00\x00\x00\x01\x04\x07\x01b\x01a\x03\x00\x00\x00", "\x00\x00\x00\x00\x01\x04\x07\x00\x01a\x03\x00\x00\x00",
		"\x00\x00\x00\x00\x01\x04\xff\xff\xff\xff\xff\xff\xff\xff\xff\x01\x01a\x01a\x03\x00\x00\x00", "\x00\x00\x00\x00\x01\x04\x07\xff\xff\xff\xff\xff\xff\xff\xff\xff\x01a\x01a\x03\x00\x00\x00", string(binary.AppendUvarint(nil, top+1)) + "\x00\x00\x00\x00\x00\x00\x00",
	} {
		if e, f := Decode(s); f != api.ErrForm || !sameEdit(e, api.Edit{}) {
			t.Errorf("Decode(%q): %v, %d", s, e, f)
		}
		checkDecode(t, s)
	}
}

// TestDecodeOfTextsThatAreCut: the bytes end within a table's First, or its Last, whatever size is told of it.
func TestDecodeOfTextsThatAreCut(t *testing.T) {
	for _, s := range []string{
		"\x05\x00\x00\x00\x01\x01\x01\x05\x61",
		"\x05\x00\x00\x00\x01\x01\x01\x01\x61\x05\x61",
	} {
		for n := range 8 {
			last := len(s) - 2
			cut := s[:last] + string([]byte{byte(n)}) + s[last+1:]
			if e, f := Decode(cut); f != api.ErrForm || !sameEdit(e, api.Edit{}) {
				t.Errorf("Decode(%x): %v, %d", cut, e, f)
			}
			checkDecode(t, cut)
		}
	}
}

// Every cut, and every byte that is another one, is left out, or doubled.
func TestDecodeOfChangedBytes(t *testing.T) {
	for _, e := range edits() {
		s := bytesByWords(e)
		if len(s) > 200 {
			continue
		}
		for i := range len(s) {
			checkDecode(t, s[:i])
			checkDecode(t, s[i:])
			checkDecode(t, s[:i]+s[i+1:])
			checkDecode(t, s[:i+1]+s[i:])
			for c := range 256 {
				checkDecode(t, s[:i]+string([]byte{byte(c)})+s[i+1:])
			}
		}
		for c := range 256 {
			checkDecode(t, s+string([]byte{byte(c)}))
		}
	}
}

// P12.4: what follows.

// Row by row of edits, each version as the words tell, and there and back.
func TestByChance(t *testing.T) {
	done := map[api.Errno]int{}
	for seed := range 300 {
		r := random(seed)
		v, n := New(), model{next: 1}
		for range 25 {
			e := r.edit(v.Files())
			_, f := v.Apply(e)
			done[f]++
			v, n = checkApply(t, v, n, e)
			checkBack(t, v, n)
		}
		checkPicks(t, v, n)
		checkMeet(t, v, n, r.key(), r.key())
	}
	for _, f := range []api.Errno{api.OK, api.ErrForm, api.ErrNone, api.ErrTwice, api.ErrRange, api.ErrArg} {
		if done[f] < 50 {
			t.Errorf("%d stood %d times only", f, done[f])
		}
	}
}

// checkBack makes a version anew of its edit, and of its edit's bytes.
func checkBack(t *testing.T, v *Version, n model) {
	t.Helper()
	e := v.Edit()
	s, f := Encode(e)
	back, g := Decode(s)
	if f != api.OK || g != api.OK || !sameEdit(back, e) {
		t.Fatalf("%v, %d, %d", e, f, g)
	}
	for _, e := range []api.Edit{e, back} {
		w, f := New().Apply(e)
		if f != api.OK {
			t.Fatalf("%v: %d", e, f)
		}
		check(t, w, n)
	}
}

// What is picked is merged: all others stay, and where it was at the bottom nothing below has a key of it.
func TestAppliedLeavesTheOthers(t *testing.T) {
	for seed := range 200 {
		r := random(seed)
		v, n := New(), model{next: 1}
		v, n = checkApply(t, v, n, api.Edit{Next: 30, Seq: 9})
		for range 20 {
			v, n = checkApply(t, v, n, api.Edit{New: at(r.below(4), r.meta(29))})
		}
		p, e := v.Pick(r.below(3), r.below(9))
		if e != api.OK {
			continue
		}
		both := append(slices.Clone(p.From), p.Into...)
		first, last := hull(both)
		merged := m(30, first, last)
		edit := api.Edit{Next: 31, New: at(p.Level+1, merged)}
		want := []placed{{p.Level + 1, merged}}
		for _, x := range n.tables {
			if slices.Contains(both, x.Meta) {
				edit.Gone = append(edit.Gone, x.File)
			} else {
				want = append(want, x)
			}
		}
		w, f := v.Apply(edit)
		if f != api.OK { // what comes of all that meets has room in the next level
			t.Fatalf("%v of %v: %d", p, n, f)
		}
		check(t, w, model{tables: want, next: 31, log: n.log, seq: n.seq})
	}
}

// The rules R1, R3 and R4.

func TestNothingIsShared(t *testing.T) {
	e := sample()
	e.Gone = make([]uint64, 0, 4)
	v, f := New().Apply(e)
	if f != api.OK {
		t.Fatal(f)
	}
	n := modelOf(v)
	w, f := v.Apply(api.Edit{Gone: []uint64{9}, New: at(0, m(11, "a", "a"))})
	if f != api.OK {
		t.Fatal(f)
	}
	o := modelOf(w)
	for l := range e.New { // the argument is changed behind the call
		clear(e.New[l])
	}
	check(t, v, n)
	spoil := func(lists ...[]api.Meta) {
		for _, l := range lists {
			clear(l)
			_ = append(l, m(99, "q", "q"))
			if len(l) > 0 {
				_ = append(l[:1], m(99, "q", "q"))
			}
		}
	}
	for _, x := range []*Version{v, w} {
		edit := x.Edit()
		spoil(edit.New[:]...)
		p, _ := x.Pick(0, 1)
		spoil(p.From, p.Into)
		for l := range api.Levels {
			spoil(x.Level(l), x.Meet(l, "a", "zz"))
		}
		clear(x.Files())
		check(t, v, n)
		check(t, w, o)
	}
	s, _ := Encode(sample())
	one, _ := Decode(s)
	two, _ := Decode(s)
	spoil(one.New[:]...)
	if !sameEdit(two, sample()) {
		t.Errorf("%v", two)
	}
}

func TestHugeArguments(t *testing.T) {
	v, n := made(t, sample())
	gone := make([]uint64, 1<<22)
	if _, f := v.Apply(api.Edit{Gone: gone}); f != api.ErrNone {
		t.Errorf("%d", f)
	}
	if _, f := Encode(api.Edit{Gone: gone}); f != api.ErrForm {
		t.Errorf("%d", f)
	}
	list := slices.Repeat([]api.Meta{m(1, "a", "a")}, 1<<20)
	for i := range list {
		list[i].File = uint64(len(list) - i + 50)
	}
	var before, behind runtime.MemStats
	runtime.ReadMemStats(&before)
	for l := range api.Levels {
		if _, f := v.Apply(api.Edit{New: at(l, list...), Next: top}); f != api.ErrMany {
			t.Errorf("%d", f)
		}
		if _, f := v.Apply(api.Edit{New: at(l, list...)}); f != api.ErrRange {
			t.Errorf("%d", f)
		}
		if _, f := Encode(api.Edit{New: at(l, list...)}); f != api.ErrForm {
			t.Errorf("%d", f)
		}
	}
	runtime.ReadMemStats(&behind)
	if used := behind.TotalAlloc - before.TotalAlloc; used > 1<<29 {
		t.Errorf("%d bytes", used)
	}
	list[len(list)-1].File = list[0].File
	if _, f := v.Apply(api.Edit{New: at(0, list...), Next: top}); f != api.ErrTwice {
		t.Errorf("%d", f)
	}
	if _, f := Decode(strings.Repeat("\x01", 1<<22)); f != api.ErrForm {
		t.Errorf("%d", f)
	}
	check(t, v, n)
}

func FuzzDecode(f *testing.F) {
	f.Add("")
	for _, e := range edits() {
		f.Add(bytesByWords(e))
	}
	f.Fuzz(func(t *testing.T, s string) {
		checkDecode(t, s)
		if e, f := Decode(s); f == api.OK {
			v, n := checkApply(t, New(), model{next: 1}, e)
			checkPicks(t, v, n)
		}
	})
}
