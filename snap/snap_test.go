package snap

import (
	"fmt"
	"math"
	"math/big"
	"slices"
	"testing"

	"scree/api"
	"scree/col"
)

const last = 1 << 40 // the last time, and the last clock

// What may be and what may not, at all edges that the words name.
var (
	times   = []uint64{1, 2, 127, 300, 1<<32 - 1, 1 << 32, last - 1, last}
	clocks  = append([]uint64{0}, times...)
	farAway = []uint64{last + 1, last + 2, 1 << 41, 1<<63 - 1, 1 << 63, math.MaxUint64 - last, math.MaxUint64 - last + 1, math.MaxUint64 - 1, math.MaxUint64}
	noTimes = append([]uint64{0}, farAway...)
	all     = append(slices.Clone(clocks), farAway...)
)

// registry is what may be asked of a registry.
type registry interface {
	Register(t, lease, now uint64) (uint64, api.Errno)
	Renew(id, lease, now uint64) api.Errno
	Release(id uint64) api.Errno
	Check(id, now uint64) (uint64, api.Errno)
	Reads(t, now uint64) api.Errno
	Advance(want, now uint64) uint64
	Live(now uint64) []col.Lease
	State() ([]col.Lease, uint64, uint64)
}

// words is a registry that does what the chapter's words say, one by one.
type words struct {
	leases     map[uint64]col.Lease
	safe, next uint64
}

func newByWords() *words { return &words{map[uint64]col.Lease{}, 0, 1} }

func loadByWords(l []col.Lease, safe, next uint64) (*words, api.Errno) {
	w := newByWords()
	if _, e := col.Leases(l); e != api.OK {
		return nil, api.ErrForm
	}
	if safe > last {
		return nil, api.ErrForm
	}
	for _, x := range l {
		if !(next > x.Id) {
			return nil, api.ErrForm
		}
		w.leases[x.Id] = x
	}
	if next < 1 || next > last {
		return nil, api.ErrForm
	}
	w.safe, w.next = safe, next
	return w, api.OK
}

// together tells whether numbers are at most the last one, each of them and their sum.
func together(a, b uint64) bool {
	sum := new(big.Int).Add(new(big.Int).SetUint64(a), new(big.Int).SetUint64(b))
	return a <= last && b <= last && sum.Cmp(big.NewInt(last)) <= 0
}

func (w *words) runOut(now uint64) {
	for id, x := range w.leases {
		if now >= x.Until {
			delete(w.leases, id)
		}
	}
}

func (w *words) Register(t, lease, now uint64) (uint64, api.Errno) {
	switch {
	case t < 1, t > last, lease == 0, !together(now, lease), w.next == last:
		return 0, api.ErrRange
	case t < w.safe:
		return 0, api.ErrBelow
	}
	w.runOut(now)
	if len(w.leases) == 5 {
		return 0, api.ErrMany
	}
	id := w.next
	w.leases[id] = col.Lease{Id: id, Time: t, Until: now + lease}
	w.next = id + 1
	return id, api.OK
}

func (w *words) Renew(id, lease, now uint64) api.Errno {
	x, is := w.leases[id]
	switch {
	case !is:
		return api.ErrNone
	case now >= x.Until:
		return api.ErrExpired
	case lease == 0, !together(now, lease):
		return api.ErrRange
	case now+lease > x.Until:
		x.Until = now + lease
		w.leases[id] = x
	}
	return api.OK
}

func (w *words) Release(id uint64) api.Errno {
	if _, is := w.leases[id]; !is {
		return api.ErrNone
	}
	delete(w.leases, id)
	return api.OK
}

func (w *words) Check(id, now uint64) (uint64, api.Errno) {
	x, is := w.leases[id]
	switch {
	case !is:
		return 0, api.ErrNone
	case now >= x.Until:
		return 0, api.ErrExpired
	}
	return x.Time, api.OK
}

func (w *words) Reads(t, now uint64) api.Errno {
	for _, x := range w.leases {
		if now < x.Until && x.Time == t {
			return api.OK
		}
	}
	if t < w.safe {
		return api.ErrBelow
	}
	return api.OK
}

func (w *words) Advance(want, now uint64) uint64 {
	w.runOut(now)
	l := []uint64{want, last}
	for _, x := range w.leases {
		l = append(l, x.Time)
	}
	if least := slices.Min(l); least > w.safe {
		w.safe = least
	}
	return w.safe
}

func (w *words) Live(now uint64) []col.Lease {
	l, _, _ := w.State()
	return slices.DeleteFunc(l, func(x col.Lease) bool { return now >= x.Until })
}

func (w *words) State() ([]col.Lease, uint64, uint64) {
	var l []col.Lease
	for _, x := range w.leases {
		l = append(l, x)
	}
	slices.SortFunc(l, func(a, b col.Lease) int { return int(int64(a.Id) - int64(b.Id)) })
	return l, w.safe, w.next
}

// call is something that is asked of a registry, with up to three numbers.
type call struct {
	name    string
	a, b, c uint64
}

// told tells what a registry answers.
func (x call) told(r registry) string {
	switch x.name {
	case "Register":
		return fmt.Sprintln(r.Register(x.a, x.b, x.c))
	case "Renew":
		return fmt.Sprintln(r.Renew(x.a, x.b, x.c))
	case "Release":
		return fmt.Sprintln(r.Release(x.a))
	case "Check":
		return fmt.Sprintln(r.Check(x.a, x.b))
	case "Reads":
		return fmt.Sprintln(r.Reads(x.a, x.b))
	case "Advance":
		return fmt.Sprintln(r.Advance(x.a, x.b))
	case "Live":
		return fmt.Sprintln(r.Live(x.a))
	}
	return fmt.Sprintln(r.State())
}

// pair is a registry, and one by the words, of which the same is asked.
type pair struct {
	r *Registry
	w *words
}

func newPair() pair { return pair{New(), newByWords()} }

// load makes a pair that must be loaded.
func load(t *testing.T, l []col.Lease, safe, next uint64) pair {
	t.Helper()
	r, e := Load(l, safe, next)
	w, f := loadByWords(l, safe, next)
	if e != api.OK || f != api.OK || r == nil {
		t.Fatalf("Load(%v, %d, %d): %d; want %d", l, safe, next, e, f)
	}
	return pair{r, w}
}

// again makes a pair of the same state.
func (p pair) again(t *testing.T) pair {
	t.Helper()
	l, safe, next := p.r.State()
	return load(t, l, safe, next)
}

// same asks both, and tells whether they answer the same, and are the same behind it.
func (p pair) same(t *testing.T, x call) bool {
	t.Helper()
	before := call{}.told(p.r)
	got, want := x.told(p.r), x.told(p.w)
	now, should := call{}.told(p.r), call{}.told(p.w)
	if got != want || now != should {
		t.Errorf("%v of %s is %s and %s; want %s and %s", x, before, got, now, want, should)
		return false
	}
	return true
}

func checkState(t *testing.T, r *Registry, l []col.Lease, safe, next uint64) {
	t.Helper()
	m, s, n := r.State()
	if !slices.Equal(m, l) || s != safe || n != next {
		t.Errorf("State: %v, %d, %d; want %v, %d, %d", m, s, n, l, safe, next)
	}
}

func checkRegister(t *testing.T, r *Registry, at, lease, now, id uint64, e api.Errno) {
	t.Helper()
	if got, f := r.Register(at, lease, now); got != id || f != e {
		t.Errorf("Register(%d, %d, %d): %d, %d; want %d, %d", at, lease, now, got, f, id, e)
	}
}

func checkRenew(t *testing.T, r *Registry, id, lease, now uint64, e api.Errno) {
	t.Helper()
	if f := r.Renew(id, lease, now); f != e {
		t.Errorf("Renew(%d, %d, %d): %d; want %d", id, lease, now, f, e)
	}
}

func checkRelease(t *testing.T, r *Registry, id uint64, e api.Errno) {
	t.Helper()
	if f := r.Release(id); f != e {
		t.Errorf("Release(%d): %d; want %d", id, f, e)
	}
}

func checkCheck(t *testing.T, r *Registry, id, now, at uint64, e api.Errno) {
	t.Helper()
	if got, f := r.Check(id, now); got != at || f != e {
		t.Errorf("Check(%d, %d): %d, %d; want %d, %d", id, now, got, f, at, e)
	}
}

func checkReads(t *testing.T, r *Registry, at, now uint64, e api.Errno) {
	t.Helper()
	if f := r.Reads(at, now); f != e {
		t.Errorf("Reads(%d, %d): %d; want %d", at, now, f, e)
	}
}

func checkAdvance(t *testing.T, r *Registry, want, now, safe uint64) {
	t.Helper()
	if got := r.Advance(want, now); got != safe {
		t.Errorf("Advance(%d, %d): %d; want %d", want, now, got, safe)
	}
}

func checkLive(t *testing.T, r *Registry, now uint64, l ...col.Lease) {
	t.Helper()
	if got := r.Live(now); !slices.Equal(got, l) {
		t.Errorf("Live(%d): %v; want %v", now, got, l)
	}
}

// loaded makes a registry that must be loaded.
func loaded(t *testing.T, safe, next uint64, l ...col.Lease) *Registry {
	t.Helper()
	return load(t, l, safe, next).r
}

// P16.1: New, Load and State.

func TestNew(t *testing.T) {
	r, s := New(), New()
	checkState(t, r, nil, 0, 1)
	checkRegister(t, r, 5, 1, 0, 1, api.OK)
	checkState(t, r, []col.Lease{{Id: 1, Time: 5, Until: 1}}, 0, 2)
	checkState(t, s, nil, 0, 1)
	checkState(t, New(), nil, 0, 1)
}

// someLeases tells lists of leases, of which some may not be.
func someLeases() [][]col.Lease {
	l := [][]col.Lease{nil, {}}
	for _, id := range all {
		for _, at := range all {
			for _, until := range all {
				l = append(l, []col.Lease{{Id: id, Time: at, Until: until}})
			}
		}
	}
	for _, a := range all {
		for _, b := range all {
			l = append(l, []col.Lease{{Id: a, Time: 3, Until: 7}, {Id: b, Time: 1, Until: 9}}, []col.Lease{{Id: 1, Time: 3, Until: 7}, {Id: a, Time: 3, Until: 7}, {Id: b, Time: 1, Until: 9}})
		}
	}
	for n := range 9 {
		l = append(l, rising(n))
	}
	return l
}

// rising tells so many leases that rise.
func rising(n int) []col.Lease {
	var l []col.Lease
	for i := range n {
		l = append(l, col.Lease{Id: uint64(2*i + 1), Time: uint64(30 - i), Until: 40})
	}
	return l
}

// checkLoad holds Load against the words.
func checkLoad(t *testing.T, l []col.Lease, safe, next uint64) {
	t.Helper()
	r, e := Load(l, safe, next)
	_, want := loadByWords(l, safe, next)
	if e != want || (r == nil) != (want != api.OK) {
		t.Errorf("Load(%v, %d, %d): %v, %d; want %d", l, safe, next, r, e, want)
	} else if e == api.OK {
		checkState(t, r, l, safe, next)
	}
}

func TestLoad(t *testing.T) {
	for _, l := range someLeases() {
		for _, safe := range []uint64{0, 5, last, last + 1, math.MaxUint64} {
			for _, next := range all {
				checkLoad(t, l, safe, next)
			}
		}
	}
	for _, safe := range all {
		for _, next := range append(slices.Clone(all), 8, 9, 10, 11) {
			checkLoad(t, rising(5), safe, next)
			checkLoad(t, rising(6), safe, next)
		}
	}
}

func TestLoadByHand(t *testing.T) {
	l := []col.Lease{{Id: 3, Time: 5, Until: 0}, {Id: 7, Time: last, Until: last}}
	for i, x := range []struct {
		l          []col.Lease
		safe, next uint64
		e          api.Errno
	}{
		{nil, 0, 1, api.OK}, {nil, last, last, api.OK}, {nil, last + 1, 1, api.ErrForm}, {nil, 0, 0, api.ErrForm}, {nil, 0, last + 1, api.ErrForm},
		{l, 0, 8, api.OK}, {l, last, last, api.OK}, {l, 0, 7, api.ErrForm}, {l, 0, 4, api.ErrForm}, {l, 0, 1, api.ErrForm}, {l, 0, 0, api.ErrForm}, {l, 0, last + 1, api.ErrForm},
		{[]col.Lease{{Id: last - 1, Time: 1}}, 0, last, api.OK}, {[]col.Lease{{Id: last, Time: 1}}, 0, last, api.ErrForm}, {[]col.Lease{{Id: last, Time: 1}}, 0, last + 1, api.ErrForm},
		{[]col.Lease{l[1], l[0]}, 0, 8, api.ErrForm}, {[]col.Lease{l[0], l[0]}, 0, 8, api.ErrForm},
		{[]col.Lease{{Id: 0, Time: 1, Until: 1}}, 0, 8, api.ErrForm}, {[]col.Lease{{Id: 1, Time: 0, Until: 1}}, 0, 8, api.ErrForm}, {[]col.Lease{{Id: 1, Time: last + 1, Until: 1}}, 0, 8, api.ErrForm}, {[]col.Lease{{Id: 1, Time: 1, Until: last + 1}}, 0, 8, api.ErrForm},
		{rising(5), 0, 10, api.OK}, {rising(5), 0, 9, api.ErrForm}, {rising(6), 0, 90, api.ErrForm},
	} {
		r, e := Load(x.l, x.safe, x.next)
		if e != x.e || (r == nil) != (e != api.OK) {
			t.Errorf("case %d: %v, %d", i, r, e)
		} else if e == api.OK {
			checkState(t, r, x.l, x.safe, x.next)
		}
	}
}

func TestLoadLong(t *testing.T) {
	l := make([]col.Lease, 1<<20)
	if r, e := Load(l, 0, 1); r != nil || e != api.ErrForm {
		t.Errorf("%v, %d", r, e)
	}
}

// P16.2: Register, Renew and Release.

func TestRegister(t *testing.T) {
	r := New()
	checkRegister(t, r, 5, 10, 0, 1, api.OK)
	checkRegister(t, r, 3, 1, 7, 2, api.OK)
	checkRegister(t, r, 5, 10, 0, 3, api.OK)
	checkRegister(t, r, last, last, 0, 4, api.OK)
	checkState(t, r, []col.Lease{{Id: 1, Time: 5, Until: 10}, {Id: 2, Time: 3, Until: 8}, {Id: 3, Time: 5, Until: 10}, {Id: 4, Time: last, Until: last}}, 0, 5)
	checkRegister(t, r, 1, 1, last-1, 5, api.OK)
	checkState(t, r, []col.Lease{{Id: 4, Time: last, Until: last}, {Id: 5, Time: 1, Until: last}}, 0, 6)
}

func TestRegisterRange(t *testing.T) {
	l := []col.Lease{{Id: 1, Time: 9, Until: 3}}
	for _, safe := range []uint64{0, 7, last} { // where several errors apply, this one is named first
		r := loaded(t, safe, 5, l...)
		for _, x := range noTimes {
			checkRegister(t, r, x, 1, 9, 0, api.ErrRange)
			checkRegister(t, r, last, x, 9, 0, api.ErrRange)
		}
		for _, x := range farAway {
			checkRegister(t, r, last, 1, x, 0, api.ErrRange)
			checkRegister(t, r, last, x, x, 0, api.ErrRange)
			checkRegister(t, r, last, -x, x, 0, api.ErrRange)
			checkRegister(t, r, last, -x+1, x, 0, api.ErrRange)
		}
		for _, x := range times {
			checkRegister(t, r, last, last-x+1, x, 0, api.ErrRange)
			checkRegister(t, r, last, x, last-x+1, 0, api.ErrRange)
			checkRegister(t, r, last, -x, x, 0, api.ErrRange)
		}
		checkRegister(t, r, 1, 0, 9, 0, api.ErrRange)
		checkState(t, r, l, safe, 5)
	}
	r := loaded(t, 7, last, l...)
	checkRegister(t, r, 9, 1, 9, 0, api.ErrRange)
	checkRegister(t, r, 1, 1, 9, 0, api.ErrRange)
	checkState(t, r, l, 7, last)
	r = loaded(t, 7, last-1, l...)
	checkRegister(t, r, 9, 1, 2, last-1, api.OK)
	checkRegister(t, r, 9, 1, 2, 0, api.ErrRange)
	checkState(t, r, []col.Lease{{Id: 1, Time: 9, Until: 3}, {Id: last - 1, Time: 9, Until: 3}}, 7, last)
}

func TestRegisterBelow(t *testing.T) {
	l := []col.Lease{{Id: 1, Time: 3, Until: 5}, {Id: 2, Time: 4, Until: 9}}
	r := loaded(t, 7, 3, l...)
	for _, x := range []uint64{1, 2, 3, 4, 6} { // also of a time that is held
		checkRegister(t, r, x, 1, 0, 0, api.ErrBelow)
		checkRegister(t, r, x, 1, 6, 0, api.ErrBelow)
	}
	checkState(t, r, l, 7, 3) // what had run out is there still
	checkRegister(t, r, 7, 1, 0, 3, api.OK)
	checkRegister(t, r, 8, 1, 0, 4, api.OK)
	r = loaded(t, 7, 10, rising(5)...)
	checkRegister(t, r, 6, 1, 0, 0, api.ErrBelow)
	checkRegister(t, r, 7, 1, 0, 0, api.ErrMany)
	r = loaded(t, last, 1)
	checkRegister(t, r, last-1, 1, 0, 0, api.ErrBelow)
	checkRegister(t, r, last, 1, 0, 1, api.OK)
}

func TestRegisterMany(t *testing.T) {
	r := New()
	for i := range uint64(5) {
		checkRegister(t, r, 7, 10+i, 0, i+1, api.OK)
	}
	l, _, _ := r.State()
	checkRegister(t, r, 7, 1, 9, 0, api.ErrMany)
	checkState(t, r, l, 0, 6)
	checkRegister(t, r, 7, 1, 10, 6, api.OK)
	checkState(t, r, append(slices.Clone(l[1:]), col.Lease{Id: 6, Time: 7, Until: 11}), 0, 7)
	checkRegister(t, r, 7, 1, 12, 7, api.OK)
	checkState(t, r, append(slices.Clone(l[3:]), col.Lease{Id: 7, Time: 7, Until: 13}), 0, 8)
	checkRegister(t, r, 7, 1, 99, 8, api.OK)
	checkState(t, r, []col.Lease{{Id: 8, Time: 7, Until: 100}}, 0, 9)
}

func TestRegisterInTheMiddle(t *testing.T) {
	l := []col.Lease{{Id: 2, Time: 1, Until: 30}, {Id: 4, Time: 2, Until: 10}, {Id: 5, Time: 3, Until: 30}, {Id: 6, Time: 4, Until: 9}, {Id: 7, Time: 5, Until: 30}}
	r := loaded(t, 0, 20, l...)
	checkRegister(t, r, 6, 1, 8, 0, api.ErrMany)
	checkState(t, r, l, 0, 20)
	checkRegister(t, r, 6, 1, 10, 20, api.OK)
	checkState(t, r, []col.Lease{l[0], l[2], l[4], {Id: 20, Time: 6, Until: 11}}, 0, 21)
}

func TestRenew(t *testing.T) {
	l := []col.Lease{{Id: 3, Time: 5, Until: 10}, {Id: 7, Time: 6, Until: last}, {Id: 9, Time: 6, Until: 0}}
	r := loaded(t, 4, 20, l...)
	for _, id := range []uint64{0, 1, 2, 4, 8, 10, 20, last, math.MaxUint64} { // where several errors apply, this one is named first
		checkRenew(t, r, id, 1, 0, api.ErrNone)
		checkRenew(t, r, id, 0, math.MaxUint64, api.ErrNone)
	}
	for _, now := range []uint64{10, 11, last, last + 1, math.MaxUint64} { // and then this one
		checkRenew(t, r, 3, 1, now, api.ErrExpired)
		checkRenew(t, r, 3, 0, now, api.ErrExpired)
		checkRenew(t, r, 3, math.MaxUint64, now, api.ErrExpired)
	}
	checkRenew(t, r, 9, 1, 0, api.ErrExpired)
	checkRenew(t, r, 7, 1, last, api.ErrExpired)
	for _, now := range []uint64{0, 1, 5, 9} {
		for _, lease := range append([]uint64{last - now + 1, -now, -now - 1, 1 - now - 1}, farAway...) {
			checkRenew(t, r, 3, lease, now, api.ErrRange)
		}
		checkRenew(t, r, 3, 0, now, api.ErrRange)
	}
	for now := range uint64(10) {
		checkRenew(t, r, 3, 10-now, now, api.OK)
		checkRenew(t, r, 3, 1, now, api.OK)
	}
	checkRenew(t, r, 7, 1, 0, api.OK)
	checkRenew(t, r, 7, 1, last-1, api.OK)
	checkState(t, r, l, 4, 20) // it is never until earlier
	checkRenew(t, r, 3, 2, 9, api.OK)
	l[0].Until = 11
	checkState(t, r, l, 4, 20)
	checkRenew(t, r, 3, 1, 10, api.OK)
	checkRenew(t, r, 3, last, 0, api.OK)
	l[0].Until = last
	checkState(t, r, l, 4, 20)
}

func TestRelease(t *testing.T) {
	l := rising(5)
	for i, x := range l {
		r := loaded(t, 4, 20, l...)
		for _, id := range []uint64{0, 2, 4, 10, 11, 20, last, math.MaxUint64} {
			checkRelease(t, r, id, api.ErrNone)
		}
		checkState(t, r, l, 4, 20)
		checkRelease(t, r, x.Id, api.OK)
		checkState(t, r, slices.Delete(slices.Clone(l), i, i+1), 4, 20)
		checkRelease(t, r, x.Id, api.ErrNone)
		checkRegister(t, r, 9, 1, 0, 20, api.OK)
	}
	r := loaded(t, 4, 20, col.Lease{Id: 3, Time: 1, Until: 0}) // also what has run out
	checkRelease(t, r, 3, api.OK)
	checkState(t, r, nil, 4, 20)
	checkRelease(t, New(), 1, api.ErrNone)
}

// P16.3: Check, Reads and Live.

func TestCheck(t *testing.T) {
	r := loaded(t, 4, 20, col.Lease{Id: 3, Time: 5, Until: 10}, col.Lease{Id: 7, Time: 2, Until: last}, col.Lease{Id: 9, Time: 6, Until: 0})
	for _, id := range []uint64{0, 1, 2, 4, 8, 10, 20, last, math.MaxUint64} {
		checkCheck(t, r, id, 0, 0, api.ErrNone)
		checkCheck(t, r, id, math.MaxUint64, 0, api.ErrNone)
	}
	for now := range uint64(10) {
		checkCheck(t, r, 3, now, 5, api.OK)
	}
	for _, now := range []uint64{10, 11, last, last + 1, math.MaxUint64} {
		checkCheck(t, r, 3, now, 0, api.ErrExpired)
	}
	checkCheck(t, r, 7, last-1, 2, api.OK)
	checkCheck(t, r, 7, last, 0, api.ErrExpired)
	checkCheck(t, r, 9, 0, 0, api.ErrExpired)
}

func TestReads(t *testing.T) {
	r := loaded(t, 7, 20, col.Lease{Id: 3, Time: 2, Until: 10}, col.Lease{Id: 5, Time: 5, Until: 20}, col.Lease{Id: 6, Time: 5, Until: 5}, col.Lease{Id: 9, Time: 8, Until: 9})
	for _, now := range append([]uint64{9, 10, 19, 20}, all...) {
		for at := range uint64(12) {
			want := api.OK
			if at < 7 && (at != 2 || now >= 10) && (at != 5 || now >= 20) {
				want = api.ErrBelow
			}
			checkReads(t, r, at, now, want)
		}
		for _, at := range farAway {
			checkReads(t, r, at, now, api.OK)
		}
		checkReads(t, New(), 0, now, api.OK)
	}
	r = loaded(t, last, 1)
	checkReads(t, r, last-1, 0, api.ErrBelow)
	checkReads(t, r, last, 0, api.OK)
}

func TestLive(t *testing.T) {
	l := []col.Lease{{Id: 3, Time: 9, Until: 10}, {Id: 5, Time: 5, Until: 20}, {Id: 6, Time: 1, Until: 0}, {Id: 9, Time: 8, Until: last}}
	r := loaded(t, 7, 20, l...)
	for _, now := range []uint64{0, 1, 9} {
		checkLive(t, r, now, l[0], l[1], l[3])
	}
	for _, now := range []uint64{10, 11, 19} {
		checkLive(t, r, now, l[1], l[3])
	}
	for _, now := range []uint64{20, last - 1} {
		checkLive(t, r, now, l[3])
	}
	for _, now := range append([]uint64{last}, farAway...) {
		checkLive(t, r, now)
		checkLive(t, New(), now)
	}
	checkState(t, r, l, 7, 20) // what isn't told isn't gone
}

// P16.4: Advance.

func TestAdvance(t *testing.T) {
	r := New()
	for _, x := range []struct{ want, safe uint64 }{{0, 0}, {3, 3}, {2, 3}, {0, 3}, {3, 3}, {last - 1, last - 1}, {last + 1, last}, {1, last}, {math.MaxUint64, last}} {
		checkAdvance(t, r, x.want, 0, x.safe)
		checkState(t, r, nil, x.safe, 1)
	}
	l := []col.Lease{{Id: 3, Time: 9, Until: 10}, {Id: 5, Time: 5, Until: 20}, {Id: 6, Time: 7, Until: 30}, {Id: 7, Time: 7, Until: 0}, {Id: 9, Time: last, Until: 40}}
	r = loaded(t, 1, 20, l...)
	checkAdvance(t, r, 4, 0, 4)
	l = slices.Delete(l, 3, 4)
	checkState(t, r, l, 4, 20)
	checkAdvance(t, r, 5, 9, 5)
	checkAdvance(t, r, 6, 9, 5)
	checkAdvance(t, r, math.MaxUint64, 9, 5)
	checkState(t, r, l, 5, 20)
	checkAdvance(t, r, 8, 10, 5)
	checkState(t, r, l[1:], 5, 20)
	checkAdvance(t, r, 8, 20, 7)
	checkState(t, r, l[2:], 7, 20)
	checkAdvance(t, r, 3, 30, 7) // they go also where it doesn't move
	checkState(t, r, l[3:], 7, 20)
	checkAdvance(t, r, last-1, 39, last-1)
	checkAdvance(t, r, math.MaxUint64, 39, last)
	checkState(t, r, l[3:], last, 20)
	checkAdvance(t, r, 0, math.MaxUint64, last)
	checkState(t, r, nil, last, 20)
}

// TestAdvanceAbove has a lease of which the time is below the safepoint already, as Load takes it.
func TestAdvanceAbove(t *testing.T) {
	r := loaded(t, 7, 20, col.Lease{Id: 3, Time: 2, Until: 10})
	checkAdvance(t, r, 9, 0, 7)
	checkReads(t, r, 2, 9, api.OK)
	checkAdvance(t, r, 9, 10, 9)
}

// The chapter's example.
func TestExample(t *testing.T) {
	r := New()
	checkRegister(t, r, 5, 10, 0, 1, api.OK)
	checkAdvance(t, r, 9, 3, 5)
	checkReads(t, r, 4, 3, api.ErrBelow)
	checkAdvance(t, r, 9, 10, 9)
}

// P16.1 to P16.4, against the words.

// fewCalls tells calls of small numbers, of which each changes some registry.
func fewCalls() []call {
	l := []call{{"Renew", 1, 2, 0}, {"Renew", 1, 3, 2}, {"Renew", 2, 4, 1}, {"Release", 1, 0, 0}, {"Release", 2, 0, 0}, {"Advance", 2, 0, 0}, {"Advance", 9, 1, 0}, {"Advance", 9, 3, 0}}
	for _, at := range []uint64{1, 3} {
		for _, lease := range []uint64{1, 3} {
			for _, now := range []uint64{0, 2} {
				l = append(l, call{"Register", at, lease, now})
			}
		}
	}
	return l
}

// looks tells calls that change nothing, of small numbers.
func looks() []call {
	var l []call
	for now := range uint64(6) {
		l = append(l, call{"Live", now, 0, 0})
		for n := range uint64(5) {
			l = append(l, call{"Check", n, now, 0}, call{"Reads", n, now, 0})
		}
	}
	return l
}

// checkRows holds a pair against each other behind all rows of so many calls. Each goes on with a pair of the same state, so that there and back is looked at too.
func checkRows(t *testing.T, p pair, calls, looks []call, left int) {
	for _, x := range looks {
		if !p.same(t, x) {
			return
		}
	}
	if left == 0 {
		return
	}
	for _, x := range calls {
		q := p.again(t)
		if !q.same(t, x) {
			return
		}
		checkRows(t, q, calls, looks, left-1)
	}
}

func TestAllRows(t *testing.T) {
	checkRows(t, newPair(), fewCalls(), looks(), 3)
}

// random draws numbers that are the same each time.
type random uint64

func (r *random) below(n int) int {
	*r = *r*6364136223846793005 + 1442695040888963407
	return int(uint64(*r)>>33) % n
}

// number draws a number up to 12, or at times one of the edges.
func (r *random) number() uint64 {
	if r.below(12) == 0 {
		return all[r.below(len(all))]
	}
	return uint64(r.below(13))
}

func (r *random) call() call {
	names := []string{"Register", "Register", "Register", "Renew", "Renew", "Release", "Check", "Reads", "Advance", "Live"}
	return call{names[r.below(len(names))], r.number(), r.number(), r.number()}
}

func TestLongRows(t *testing.T) {
	for seed := range random(400) {
		r := seed
		p := newPair()
		if seed%2 == 1 {
			p = load(t, nil, 0, last-20)
		}
		for range 200 {
			x := r.call()
			if seed%4 < 2 && x.name == "Advance" && x.a > 12 { // else the safepoint is soon above all that is drawn
				x.a = uint64(r.below(13))
			}
			if !p.same(t, x) {
				return
			}
		}
	}
}

// TestEdges asks everything with all edges, of registries that are empty, full, and at the end of the numbers.
func TestEdges(t *testing.T) {
	for _, p := range []pair{newPair(), load(t, rising(5), 9, last-1), load(t, rising(5), last, last), load(t, []col.Lease{{Id: 1, Time: 1, Until: 1}, {Id: 2, Time: last, Until: last}}, 1, last-1)} {
		for _, a := range all {
			for _, b := range all {
				for _, c := range all {
					p.again(t).same(t, call{"Register", a, b, c})
					p.again(t).same(t, call{"Renew", a, b, c})
				}
				p.again(t).same(t, call{"Check", a, b, 0})
				p.again(t).same(t, call{"Reads", a, b, 0})
				p.again(t).same(t, call{"Advance", a, b, 0})
			}
			p.again(t).same(t, call{"Release", a, 0, 0})
			p.again(t).same(t, call{"Live", a, 0, 0})
		}
	}
}

// P16.5: the safepoint never falls, and is never above a time at which a lease lives; that is read.

func TestSafepoint(t *testing.T) {
	for seed := range random(300) {
		r := seed
		s := New()
		before := uint64(0)
		for range 200 {
			r.call().told(s)
			_, safe, _ := s.State()
			if safe < before {
				t.Fatalf("it fell from %d to %d", before, safe)
			}
			before = safe
			checkHeld(t, s, r.number())
		}
	}
}

// checkHeld looks whether the leases that live at a clock hold what they should.
func checkHeld(t *testing.T, s *Registry, now uint64) {
	t.Helper()
	_, safe, _ := s.State()
	for _, x := range s.Live(now) {
		if x.Time < safe {
			t.Errorf("the safepoint %d is above %v", safe, x)
		}
		checkCheck(t, s, x.Id, now, x.Time, api.OK)
		checkReads(t, s, x.Time, now, api.OK)
	}
}

// R3: nothing is shared; an argument stays as it was.

func TestNothingShared(t *testing.T) {
	l := rising(4)
	r, e := Load(l, 4, 20)
	if e != api.OK || !slices.Equal(l, rising(4)) {
		t.Fatalf("%v, %d", l, e)
	}
	clear(l)
	checkState(t, r, rising(4), 4, 20)
	l, _, _ = r.State()
	live := r.Live(0)
	clear(l)
	clear(live)
	checkState(t, r, rising(4), 4, 20)
	l, _, _ = r.State()
	live = r.Live(0)
	_, _ = append(l, col.Lease{Id: 99}), append(live, col.Lease{Id: 98})
	checkRegister(t, r, 9, 1, 0, 20, api.OK)
	checkRenew(t, r, 1, 90, 0, api.OK)
	checkRelease(t, r, 3, api.OK)
	checkAdvance(t, r, 0, 10, 4)
	if !slices.Equal(l, rising(4)) || !slices.Equal(live, rising(4)) {
		t.Errorf("%v, %v", l, live)
	}
}

func TestLoadedTwice(t *testing.T) {
	l := rising(4)
	r, s := loaded(t, 4, 20, l...), loaded(t, 4, 20, l...)
	checkRelease(t, r, 1, api.OK)
	checkRenew(t, r, 3, 90, 0, api.OK)
	checkState(t, s, rising(4), 4, 20)
	if !slices.Equal(l, rising(4)) {
		t.Errorf("%v", l)
	}
}
