package lsm

import (
	"fmt"
	"maps"
	"slices"
	"testing"

	"scree/api"
	"scree/fs"
)

// The words' order of what is done on the disk, with the disk dying, full, or out of names at each step.

// scene is what was done to both, and what is done then.
type scene struct {
	name  string
	build func(t *testing.T, w *both)
	do    func(t *testing.T, w *both) api.Errno
}

// batchOf is operations on keys from one number to another one, some of which go.
func batchOf(from, to int) []api.Op {
	var l []api.Op
	for i := from; i < to; i++ {
		op := api.Op{Key: fmt.Sprintf("k%03d", i), Value: "v"}
		if i%7 == 3 {
			op.Del, op.Value = true, ""
		}
		l = append(l, op)
	}
	return l
}

// newScene is both as a scene builds them.
func newScene(t *testing.T, c scene) *both {
	t.Helper()
	w := newBoth(t)
	w.building = true
	c.build(t, w)
	w.building = false
	w.check(t)
	return w
}

// load writes keys from one number to another one.
func (w *both) load(t *testing.T, from, to int) {
	t.Helper()
	for i := from; i < to; i += 16 {
		if e := w.write(t, batchOf(i, min(i+16, to))); e != api.OK {
			t.Fatal(e)
		}
	}
}

// tops flushes so many tables, of which some are linked.
func (w *both) tops(t *testing.T, n int) {
	t.Helper()
	for i := range n {
		w.load(t, i*3, i*3+i%5+2)
		w.flush(t)
	}
}

func scenes() []scene {
	write := func(t *testing.T, w *both) api.Errno { return w.write(t, batchOf(60, 76)) }
	flush := func(t *testing.T, w *both) api.Errno { return w.flush(t) }
	open := func(t *testing.T, w *both) api.Errno { return w.open(t) }
	nothing := func([]api.Entry, bool) []api.Entry { return nil }
	half := func(row []api.Entry, _ bool) []api.Entry { return row[:len(row)/2] }
	levels := func(t *testing.T, w *both) {
		for i := range 3 {
			w.load(t, i*50, i*50+120)
			w.flush(t)
			w.compact(t, 0, 0, nil)
			w.compact(t, 1, i, nil)
		}
		w.load(t, 20, 70)
		w.flush(t)
		w.compact(t, 0, 0, nil)
		w.load(t, 60, 100)
		w.flush(t)
		w.load(t, 10, 20)
	}
	return []scene{
		{"a write", func(t *testing.T, w *both) { w.load(t, 0, 5) }, write},
		{"a first write", func(t *testing.T, w *both) {}, write},
		{"a write that flushes", func(t *testing.T, w *both) { w.load(t, 0, 190) }, write},
		{"a write that makes room", func(t *testing.T, w *both) { w.tops(t, 12); w.load(t, 30, 220) }, write},
		{"a flush", func(t *testing.T, w *both) { w.load(t, 0, 150) }, flush},
		{"a flush of nothing", func(t *testing.T, w *both) { w.tops(t, 12) }, flush},
		{"a flush that makes room", func(t *testing.T, w *both) { w.tops(t, 12); w.load(t, 0, 9) }, flush},
		{"a merging", levels, func(t *testing.T, w *both) api.Errno { return w.compact(t, 0, 0, half) }},
		{"a merging below", levels, func(t *testing.T, w *both) api.Errno { return w.compact(t, 1, 0, nil) }},
		{"a merging to nothing", levels, func(t *testing.T, w *both) api.Errno { return w.compact(t, 0, 0, nothing) }},
		{"all of it", levels, func(t *testing.T, w *both) api.Errno { return w.whole(t, half) }},
		{"all of it to nothing", levels, func(t *testing.T, w *both) api.Errno { return w.whole(t, nothing) }},
		{"an opening", levels, open},
		{"a first opening", func(t *testing.T, w *both) { w.disks(func(d *fs.Disk) { *d = *fs.New() }) }, open},
		{"an opening that makes room", func(t *testing.T, w *both) { w.tops(t, 12); w.load(t, 5, 9) }, open},
		{"an opening of a great log", func(t *testing.T, w *both) { w.load(t, 0, 200) }, open},
		{"an opening with strangers", func(t *testing.T, w *both) {
			w.tops(t, 2)
			w.disks(func(d *fs.Disk) {
				d.Create("tab.900")
				d.Create("tab.90")
				d.Create("wal.800")
				d.Create("man.70")
				d.Create("cur.tmp")
			})
		}, open},
	}
}

// TestEachStep lets the disk die at each step; behind crashes, at one more step of an opening too, both are opened.
func TestEachStep(t *testing.T) {
	t.Parallel()
	for _, c := range scenes() {
		s := script(1)
		for fuse, dead := 0, true; dead; fuse++ {
			for range 3 {
				w := newScene(t, c)
				w.disks(func(d *fs.Disk) { d.Fuse(fuse) })
				c.do(t, w)
				dead = w.a.Dead()
				w.crash(&s)
				again := s.draw(40)
				w.disks(func(d *fs.Disk) { d.Fuse(again) })
				w.open(t)
				w.crash(&s)
				if e := w.open(t); e != api.OK {
					t.Fatalf("%s, %d, %d: %d", c.name, fuse, again, e)
				}
				if t.Failed() {
					t.Fatalf("%s: fuse %d", c.name, fuse)
				}
			}
		}
	}
}

// TestEachQuota lets the disk be full, from where nothing has room to where all has.
func TestEachQuota(t *testing.T) {
	t.Parallel()
	for _, c := range scenes() {
		full := true
		for room := 0; full; room += 1 + room/6 {
			w := newScene(t, c)
			w.disks(func(d *fs.Disk) { d.Quota(d.Size() + room) })
			full = c.do(t, w) == api.ErrFull
			w.disks(func(d *fs.Disk) { d.Quota(1 << 20) })
			if w.db != nil && w.db.Full() != full {
				t.Fatalf("%s, room %d: full %v", c.name, room, w.db.Full())
			}
			if e := w.open(t); e != api.OK {
				t.Fatalf("%s, room %d: %d", c.name, room, e)
			}
		}
	}
}

// TestEachName leaves so many names free; where there are too few, it goes on as soon as there are more.
func TestEachName(t *testing.T) {
	t.Parallel()
	for _, c := range scenes() {
		for free := range 8 {
			w := newScene(t, c)
			names := len(w.a.List())
			for i := names; i < 60-free; i++ {
				w.disks(func(d *fs.Disk) { d.Create(fmt.Sprintf("junk%d", i)) })
			}
			e := c.do(t, w)
			if e != api.OK && e != api.ErrMany || free == 7 && e != api.OK {
				t.Fatalf("%s, %d free: %d", c.name, free, e)
			}
			if w.db != nil && (w.db.Down() || w.db.Full()) {
				t.Fatalf("%s, %d free: it stopped", c.name, free)
			}
			for i := names; i < 60-free; i++ {
				w.disks(func(d *fs.Disk) { d.Remove(fmt.Sprintf("junk%d", i)) })
			}
			if w.db != nil {
				c.do(t, w)
			}
			if e := w.open(t); e != api.OK {
				t.Fatalf("%s, %d free: %d", c.name, free, e)
			}
		}
	}
}

// P14.5: it is a map.

// store is a disk with a store, to which one thing after the other happens; what it should tell is known.
type store struct {
	disk        *fs.Disk
	db          *DB // none, if the last opening failed
	sure, maybe map[string]string
	s           script
}

// pairs tells a map as text, in order.
func pairs(m map[string]string) string {
	text := ""
	for _, k := range slices.Sorted(maps.Keys(m)) {
		text += k + "=" + m[k] + " "
	}
	return text
}

// read tells what is read of a store.
func read(t *testing.T, db *DB) map[string]string {
	t.Helper()
	m := map[string]string{}
	last := ""
	for _, x := range db.Scan("", "") {
		if x.Key <= last || x.Del {
			t.Fatalf("%v behind %q", x, last)
		}
		last = x.Key
		m[x.Key] = x.Value
	}
	return m
}

// check holds what is read against what should be.
func (r *store) check(t *testing.T) {
	t.Helper()
	if r.db == nil {
		return
	}
	if got := pairs(read(t, r.db)); got != pairs(r.sure) {
		t.Fatalf("%s, not %s", got, pairs(r.sure))
	}
	key := fmt.Sprintf("k%03d", r.s.draw(60))
	want, is := r.sure[key]
	if v, ok := r.db.Get(key); v != want || ok != is {
		t.Fatalf("Get(%q): %q, %v, not %q, %v", key, v, ok, want, is)
	}
}

// open opens it anew. Whether the write counts that was under way shows then.
func (r *store) open(t *testing.T) {
	t.Helper()
	db, e := Open(r.disk)
	r.db = db
	if e != api.OK {
		if e != api.ErrDown && e != api.ErrFull {
			t.Fatalf("Open: %d", e)
		}
		return
	}
	got := read(t, db)
	if s := pairs(got); s != pairs(r.sure) && s != pairs(r.maybe) {
		t.Fatalf("%s, neither %s nor %s", s, pairs(r.sure), pairs(r.maybe))
	}
	r.sure, r.maybe = got, got
}

func (r *store) crash(t *testing.T) {
	t.Helper()
	keep := make([]int, 60)
	for i := range keep {
		keep[i] = r.s.draw(300) - 30
	}
	r.disk.Crash(r.s.draw(9)-1, keep)
	r.db = nil
}

// write writes something; what comes of it is known only if it is told OK.
func (r *store) write(t *testing.T) {
	t.Helper()
	l := r.s.ops(60)
	next := maps.Clone(r.sure)
	for _, op := range l {
		if op.Del {
			delete(next, op.Key)
		} else {
			next[op.Key] = op.Value
		}
	}
	was := r.db.Down() || r.db.Full()
	switch e := r.db.Write(l, uint64(r.s.draw(1<<30))<<18); e {
	case api.OK:
		r.sure, r.maybe = next, next
	case api.ErrDown:
		if !was {
			r.maybe = next
		}
	case api.ErrForm, api.ErrFull:
	default:
		t.Fatalf("Write: %d", e)
	}
}

// step does one thing, whatever.
func (r *store) step(t *testing.T) {
	t.Helper()
	switch r.s.draw(30) {
	case 0:
		r.disk.Fuse(r.s.draw(60))
	case 1:
		r.crash(t)
		r.open(t)
	case 2:
		r.open(t)
	case 3:
		r.disk.Quota(r.disk.Size() + r.s.draw(4000))
	case 4:
		r.disk.Quota(1 << 20)
	case 5, 6, 7, 8:
		r.db.Flush()
	case 9, 10, 11:
		r.db.Compact(r.s.draw(3), r.s.draw(20), nil)
	case 12:
		r.db.Whole(nil)
	default:
		r.write(t)
	}
	for r.db == nil || r.disk.Dead() && r.s.draw(3) == 0 {
		r.crash(t)
		if r.s.draw(3) == 0 {
			r.disk.Fuse(r.s.draw(60)) // it may die while it is opened, and again
		}
		r.disk.Quota(1 << 20)
		r.open(t)
	}
}

func newStore(t *testing.T, seed int) *store {
	t.Helper()
	r := &store{disk: fs.New(), s: script(seed)}
	r.open(t)
	return r
}

func TestItIsAMapBehindCrashes(t *testing.T) {
	t.Parallel()
	for n := range 120 {
		r := newStore(t, n)
		for range 80 {
			r.step(t)
			r.check(t)
		}
		r.disk.Crash(0, nil)
		r.disk.Quota(1 << 20)
		r.open(t)
		r.check(t)
		if r.db == nil {
			t.Fatal("it doesn't open")
		}
	}
}

// TestItIsAMap: without crashes what was told OK is all there is, whatever is flushed and merged.
func TestItIsAMap(t *testing.T) {
	t.Parallel()
	for n := range 30 {
		r := newStore(t, n)
		for range 150 {
			switch r.s.draw(8) {
			case 0, 1:
				checkOK(t, r.db.Flush())
			case 2:
				r.db.Compact(r.s.draw(3), r.s.draw(9), func(row []api.Entry, _ bool) []api.Entry { return row })
			case 3:
				if r.s.draw(6) == 0 {
					checkOK(t, r.db.Whole(nil))
				}
			case 4:
				if r.s.draw(6) == 0 {
					r.open(t)
				}
			default:
				r.write(t)
			}
			r.check(t)
		}
	}
}

// TestEachByteOfAWrite keeps each beginning of the bytes that were being laid: the write is there whole, or not at all.
func TestEachByteOfAWrite(t *testing.T) {
	size := len(encoded(t, 3, "a=2 -b c=2")) + 2 // and the frame's
	for fuse := range 3 {
		for keep := -1; keep <= size+1; keep++ {
			d := fs.New()
			db := open(t, d)
			write(t, db, "a=1 b=1")
			d.Fuse(fuse)
			e := db.Write(ops("a=2 -b c=2"), 0)
			if (e == api.OK) != (fuse == 2) {
				t.Fatalf("fuse %d: %d", fuse, e)
			}
			d.Crash(0, []int{0, 0, keep})
			want := "a=1 b=1"
			if fuse == 2 || fuse == 1 && keep >= size {
				want = "a=2 c=2"
			}
			db = open(t, d)
			checkTold(t, db, want)
			write(t, db, "z=1")
			d.Crash(0, nil)
			checkTold(t, open(t, d), want+" z=1")
		}
	}
}

// TestWhatWasToldOKIsSure: a crash that keeps nothing takes nothing away.
func TestWhatWasToldOKIsSure(t *testing.T) {
	r := newStore(t, 5)
	for i := range 120 {
		r.write(t)
		switch i % 4 {
		case 0:
			checkOK(t, r.db.Flush())
		case 1:
			r.db.Compact(i/4%3, i, nil)
		case 2:
			checkOK(t, r.db.Whole(nil))
		}
		r.disk.Crash(0, nil)
		r.open(t)
		r.check(t)
	}
}

// TestWhatWentStaysSo, though an elder table has it: what says so goes down, level by level, till it meets that.
func TestWhatWentStaysSo(t *testing.T) {
	d := fs.New()
	db := open(t, d)
	flushed(t, db, "a=x")
	write(t, db, "-a")
	checkGet(t, db, "a", "", false)
	db = open(t, d)
	checkGet(t, db, "a", "", false)
	checkLevels(t, db, "5:a-a 3:a-a///")
	checkOK(t, db.Compact(0, 0, nil))
	checkLevels(t, db, "///")
	flushed(t, db, "a=x")
	checkOK(t, db.Whole(nil)) // 8
	flushed(t, db, "-a")
	for l, want := range []string{"/11:a-a//8:a-a", "//12:a-a/8:a-a", "///"} {
		checkOK(t, db.Compact(l, 0, nil))
		checkLevels(t, db, want)
		checkTold(t, db, "")
		checkGet(t, db, "a", "", false)
	}
	checkTold(t, open(t, d), "")
}

// R4: the same calls answer the same.
func TestTheSameCallsAnswerTheSame(t *testing.T) {
	play := func() string {
		r := newStore(t, 77)
		text := ""
		for range 150 {
			r.step(t)
			text += state(r.disk) + levels(r.db) + pairs(read(t, r.db)) + fmt.Sprint(r.db.Seq(), r.db.Mem(), r.db.Down(), r.db.Full())
		}
		return text
	}
	first := play()
	for range 3 {
		if play() != first {
			t.Fatal("it tells something else")
		}
	}
}
