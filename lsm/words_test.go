package lsm

import (
	"cmp"
	"fmt"
	"maps"
	"slices"
	"testing"

	"scree/api"
	"scree/batch"
	"scree/fs"
	"scree/manifest"
	"scree/table"
	"scree/wal"
)

const top = 1 << 40 // MaxTime

// What follows, up to scan, is the chapter's words, taken one by one: a store whose tables are lists, on a disk of its own.

// nameByWords tells a table's file's name.
func nameByWords(n uint64) string {
	if n < 1 || n > top {
		return ""
	}
	return fmt.Sprintf("tab.%d", n)
}

// plain is a store by the words.
type plain struct {
	disk       *fs.Disk
	manifest   *manifest.Manifest
	log        *wal.Log
	memory     []api.Entry // in the order in which they came
	rows       map[uint64][]api.Entry
	last       uint64 // the number that was taken last
	seq        uint64
	down, full bool
}

// order sorts entries: by keys, and of one key the greater number first.
func order(l []api.Entry) {
	slices.SortStableFunc(l, func(x, y api.Entry) int {
		return cmp.Or(cmp.Compare(x.Key, y.Key), cmp.Compare(y.Seq, x.Seq))
	})
}

// newest tells of each key the entry with the greatest number; of those with the same number the first one.
func newest(rows ...[]api.Entry) []api.Entry {
	best := map[string]api.Entry{}
	for _, row := range rows {
		for _, x := range row {
			if y, is := best[x.Key]; !is || x.Seq > y.Seq {
				best[x.Key] = x
			}
		}
	}
	l := slices.Collect(maps.Values(best))
	order(l)
	return l
}

// stay tells those entries that weren't taken away.
func stay(l []api.Entry) []api.Entry {
	var left []api.Entry
	for _, x := range l {
		if !x.Del {
			left = append(left, x)
		}
	}
	return left
}

// pieces parts entries into lists of a hundred.
func pieces(l []api.Entry) [][]api.Entry {
	var rows [][]api.Entry
	for len(l) > 100 {
		rows = append(rows, l[:100])
		l = l[100:]
	}
	if len(l) > 0 {
		rows = append(rows, l)
	}
	return rows
}

// all tells the version's tables, level by level.
func (p *plain) all() []api.Meta {
	var list []api.Meta
	for l := range 4 {
		list = append(list, p.manifest.Version().Level(l)...)
	}
	return list
}

// lay writes a row, and tells its meta.
func (p *plain) lay(row []api.Entry) (api.Meta, api.Errno) {
	p.last++
	name := nameByWords(p.last)
	b, _ := table.Build(row)
	if e := p.disk.Create(name); e != api.OK {
		return api.Meta{}, e
	}
	if e := p.disk.Append(name, b); e != api.OK {
		return api.Meta{}, e
	}
	if e := p.disk.Sync(name); e != api.OK {
		return api.Meta{}, e
	}
	m := api.Meta{File: p.last, Size: len(b), First: row[0].Key, Last: row[len(row)-1].Key}
	for _, x := range row {
		if x.Seq > m.Seq {
			m.Seq = x.Seq
		}
	}
	p.rows[p.last] = row // at once: what isn't the version's is never asked for
	return m, api.OK
}

// merge merges tables.
func (p *plain) merge(list []api.Meta, into int, bottom bool, f Filter) api.Errno {
	var rows [][]api.Entry
	var e api.Edit
	for _, m := range list {
		rows = append(rows, p.rows[m.File])
		e.Gone = append(e.Gone, m.File)
	}
	row := newest(rows...)
	if f != nil {
		if told := f(slices.Clone(row), bottom); partByWords(told, row) {
			row = told
		}
	}
	if bottom {
		row = stay(row)
	}
	for _, piece := range pieces(row) {
		m, f := p.lay(piece)
		if f != api.OK {
			return f
		}
		e.New[into] = append(e.New[into], m)
	}
	if len(row) > 0 {
		if f := p.disk.SyncDir(); f != api.OK {
			return f
		}
	}
	e.Next = p.last + 1
	if f := p.manifest.Add(e); f != api.OK {
		return f
	}
	for _, n := range e.Gone {
		if f := p.disk.Remove(nameByWords(n)); f != api.OK {
			return f
		}
	}
	return api.OK
}

// partByWords tells whether l is entries of the row, in order.
func partByWords(l, row []api.Entry) bool {
	n := 0
	for _, x := range row {
		if n < len(l) && l[n] == x {
			n++
		}
	}
	return n == len(l)
}

func (p *plain) compact(l, k int, f Filter) api.Errno {
	q, e := p.manifest.Version().Pick(l, k)
	if e != api.OK {
		return e
	}
	return p.merge(append(slices.Clone(q.From), q.Into...), l+1, q.Bottom, f)
}

// settle is what is done when it is flushed and when it is opened, up to the edit.
func (p *plain) settle() (*wal.Log, api.Errno) {
	for len(p.manifest.Version().Level(0)) >= 12 {
		if e := p.compact(0, 0, nil); e != api.OK {
			return nil, e
		}
	}
	p.last++
	log, e := wal.Create(p.disk, p.last)
	if e != api.OK {
		return nil, e
	}
	edit := api.Edit{Log: p.last, Seq: p.seq}
	rows := pieces(newest(p.memory))
	for i := len(rows) - 1; i >= 0; i-- {
		m, e := p.lay(rows[i])
		if e != api.OK {
			return nil, e
		}
		edit.New[0] = append(edit.New[0], m)
	}
	if len(rows) > 0 {
		if e := p.disk.SyncDir(); e != api.OK {
			return nil, e
		}
	}
	edit.Next = p.last + 1
	return log, p.manifest.Add(edit)
}

func (p *plain) flush() api.Errno {
	if len(p.memory) == 0 {
		return api.OK
	}
	log, e := p.settle()
	if e != api.OK {
		return e
	}
	if e := wal.Remove(p.disk, p.log.Number()); e != api.OK {
		return e
	}
	p.memory, p.log = nil, log
	return api.OK
}

func (p *plain) whole(f Filter) api.Errno {
	if e := p.flush(); e != api.OK {
		return e
	}
	if len(p.all()) == 0 {
		return api.OK
	}
	return p.merge(p.all(), 3, true, f)
}

func (p *plain) write(l []api.Op) api.Errno {
	text, e := batch.Encode(p.seq+1, l)
	if e != api.OK {
		return e
	}
	if len(p.memory)+len(l) > 200 {
		if e := p.flush(); e != api.OK {
			return e
		}
	}
	if e := p.log.Add(text); e != api.OK {
		return e
	}
	for _, op := range l {
		p.seq++
		p.memory = append(p.memory, api.Entry{Key: op.Key, Seq: p.seq, Del: op.Del, Value: op.Value})
	}
	return api.OK
}

// do does something, if it is neither down nor full, and notes what comes of it.
func (p *plain) do(what func() api.Errno) api.Errno {
	if p.down {
		return api.ErrDown
	}
	if p.full {
		return api.ErrFull
	}
	e := what()
	p.down = p.down || e == api.ErrDown || p.log.Broken() || p.manifest.Broken()
	p.full = p.full || e == api.ErrFull
	return e
}

// openByWords opens a store by the words, of a disk.
func openByWords(d *fs.Disk) (*plain, api.Errno) {
	m, e := manifest.Open(d)
	if e != api.OK {
		return nil, e
	}
	p := &plain{disk: d, manifest: m, rows: map[uint64][]api.Entry{}}
	next, first, seq := m.Version().Numbers()
	p.last, p.seq = next-1, seq
	logs := wal.Numbers(d)
	if len(logs) > 0 {
		p.last = max(p.last, logs[len(logs)-1])
	}
	files := m.Version().Files()
	for _, name := range d.List() {
		var n uint64
		if _, err := fmt.Sscanf(name, "tab.%d", &n); err != nil || nameByWords(n) != name || slices.Contains(files, n) {
			continue
		}
		if e := d.Remove(name); e != api.OK {
			return nil, e
		}
	}
	for _, n := range files {
		b, _ := d.Read(nameByWords(n))
		t, e := table.Open(b) // no bytes are no table's
		if e != api.OK {
			return nil, api.ErrForm
		}
		p.rows[n] = t.All()
	}
	if e := p.replay(logs, first, seq); e != api.OK {
		return nil, e
	}
	if p.log, e = p.settle(); e != api.OK {
		return nil, e
	}
	p.memory = nil
	for _, n := range logs {
		if e := wal.Remove(d, n); e != api.OK {
			return nil, e
		}
	}
	return p, api.OK
}

func (p *plain) replay(logs []uint64, first, seq uint64) api.Errno {
	for _, n := range logs {
		if n < first {
			continue
		}
		texts, _ := wal.Replay(p.disk, n)
		for _, text := range texts {
			k, ops, e := batch.Decode(text)
			if e != api.OK {
				return api.ErrForm
			}
			for i, op := range ops {
				x := api.Entry{Key: op.Key, Seq: k + uint64(i), Del: op.Del, Value: op.Value}
				same := slices.ContainsFunc(p.memory, func(y api.Entry) bool { return y.Key == x.Key && y.Seq == x.Seq })
				if x.Seq <= seq {
					continue
				}
				if same {
					return api.ErrForm
				}
				p.memory = append(p.memory, x)
				p.seq = max(p.seq, x.Seq)
			}
		}
	}
	return api.OK
}

// scan tells what is read.
func (p *plain) scan() []api.Entry {
	rows := [][]api.Entry{p.memory}
	for _, m := range p.all() {
		rows = append(rows, p.rows[m.File])
	}
	return stay(newest(rows...))
}

// What follows holds a store against one by the words.

// both is a store and one by the words, on disks of their own to which the same is done.
type both struct {
	db *DB
	p  *plain
	a  *fs.Disk
	b  *fs.Disk

	building bool // what is done isn't looked at yet
}

// newBoth opens both, of disks that are new.
func newBoth(t *testing.T) *both {
	t.Helper()
	w := &both{a: fs.New(), b: fs.New()}
	w.open(t)
	return w
}

// open opens both anew, and tells how that ended.
func (w *both) open(t *testing.T) api.Errno {
	t.Helper()
	db, e := Open(w.a)
	p, f := openByWords(w.b)
	if e != f || (db == nil) != (e != api.OK) {
		t.Fatalf("Open: %v, %d, not %d", db, e, f)
	}
	w.db, w.p = db, p
	w.check(t)
	return e
}

// disks does something to both disks.
func (w *both) disks(do func(d *fs.Disk)) {
	do(w.a)
	do(w.b)
}

// do does something to both stores, and holds what comes of it against each other.
func (w *both) do(t *testing.T, what string, a func(db *DB) api.Errno, b func(p *plain) api.Errno) api.Errno {
	t.Helper()
	e := a(w.db)
	f := w.p.do(func() api.Errno { return b(w.p) })
	if e != f {
		t.Fatalf("%s: %d, not %d", what, e, f)
	}
	w.check(t)
	return e
}

func (w *both) write(t *testing.T, l []api.Op) api.Errno {
	t.Helper()
	return w.do(t, "Write", func(db *DB) api.Errno { return db.Write(l, 0o1234567) }, func(p *plain) api.Errno { return p.write(l) })
}

func (w *both) flush(t *testing.T) api.Errno {
	t.Helper()
	return w.do(t, "Flush", (*DB).Flush, (*plain).flush)
}

func (w *both) compact(t *testing.T, l, k int, f Filter) api.Errno {
	t.Helper()
	return w.do(t, "Compact", func(db *DB) api.Errno { return db.Compact(l, k, f) }, func(p *plain) api.Errno { return p.compact(l, k, f) })
}

func (w *both) whole(t *testing.T, f Filter) api.Errno {
	t.Helper()
	return w.do(t, "Whole", func(db *DB) api.Errno { return db.Whole(f) }, func(p *plain) api.Errno { return p.whole(f) })
}

// check holds all that can be seen of both against each other.
func (w *both) check(t *testing.T) {
	t.Helper()
	if w.building {
		return
	}
	if a, b := state(w.a), state(w.b); a != b {
		t.Fatalf("the disk: %s, not %s", a, b)
	}
	if w.db == nil {
		return
	}
	if a, b := w.db.Scan("", ""), w.p.scan(); !slices.Equal(a, b) {
		t.Fatalf("Scan: %v, not %v", a, b)
	}
	if w.db.Seq() != w.p.seq || w.db.Mem() != len(w.p.memory) || w.db.Down() != w.p.down || w.db.Full() != w.p.full {
		t.Fatalf("%d, %d, %v, %v, not %d, %d, %v, %v", w.db.Seq(), w.db.Mem(), w.db.Down(), w.db.Full(), w.p.seq, len(w.p.memory), w.p.down, w.p.full)
	}
	for l := -1; l <= 4; l++ {
		if a, b := w.db.Level(l), w.p.manifest.Version().Level(l); !slices.Equal(a, b) {
			t.Fatalf("Level %d: %v, not %v", l, a, b)
		}
	}
	w.checkTables(t)
}

// checkTables holds that a store has each table of the version, and no other one.
func (w *both) checkTables(t *testing.T) {
	t.Helper()
	if n := len(w.db.tables); n != len(w.p.all()) {
		t.Fatalf("%d tables, not %d", n, len(w.p.all()))
	}
	for _, m := range w.p.all() {
		if row := w.db.tables[m.File].All(); !slices.Equal(row, w.p.rows[m.File]) {
			t.Fatalf("table %d: %v, not %v", m.File, row, w.p.rows[m.File])
		}
	}
}

// state tells all that a disk tells of itself.
func state(d *fs.Disk) string {
	var list []string
	for _, name := range d.List() {
		b, _ := d.Read(name)
		list = append(list, name, b)
	}
	changes, size := d.Loose()
	return fmt.Sprintf("%q, loose %d, %d, dead %v", list, changes, size, d.Dead())
}

// script draws numbers, each time another one, but in each run the same ones.
type script uint64

func (s *script) draw(n int) int {
	*s = *s*6364136223846793005 + 1442695040888963407
	return int(uint64(*s) >> 33 % uint64(n))
}

// ops draws operations on so many keys; few of them may not be.
func (s *script) ops(keys int) []api.Op {
	var l []api.Op
	for range 1 + s.draw(16) {
		op := api.Op{Key: fmt.Sprintf("k%03d", s.draw(keys)), Value: fmt.Sprint(s.draw(1000))}
		switch s.draw(200) {
		case 0:
			op.Key = ""
		case 1:
			op.Del = true
		default:
			if s.draw(4) == 0 {
				op.Del, op.Value = true, ""
			}
		}
		l = append(l, op)
	}
	return l
}

// filter draws a filter.
func (s *script) filter() Filter {
	part := 1 + s.draw(5)
	some := func(row []api.Entry, bottom bool) []api.Entry {
		return slices.DeleteFunc(row, func(x api.Entry) bool { return bottom && x.Seq%uint64(part) == 0 })
	}
	switch s.draw(6) {
	case 0:
		return nil
	case 1:
		return func(row []api.Entry, _ bool) []api.Entry { slices.Reverse(row); return row }
	case 2:
		return func(row []api.Entry, _ bool) []api.Entry { row[len(row)-1].Value += "x"; return row }
	case 3:
		return func(row []api.Entry, _ bool) []api.Entry { return row[:len(row)/part] }
	}
	return some
}

// step does one thing, whatever, to both.
func (s *script) step(t *testing.T, w *both, keys int) {
	t.Helper()
	switch n := s.draw(40); {
	case n < 3:
		w.flush(t)
	case n < 7:
		w.compact(t, s.draw(3), s.draw(40), s.filter())
	case n == 7:
		w.compact(t, s.draw(6)-1, s.draw(4)-1, s.filter())
	case n == 8:
		w.whole(t, s.filter())
	case n == 9:
		w.open(t)
	case n == 10:
		room := s.draw(3000)
		w.disks(func(d *fs.Disk) { d.Quota(d.Size() + room) })
	case n == 11:
		fuse := s.draw(40)
		w.disks(func(d *fs.Disk) { d.Fuse(fuse) })
	case n == 12:
		name := []string{"tab.0", "tab.x", "x", "tab.99999", "wal.99999"}[s.draw(5)]
		w.disks(func(d *fs.Disk) {
			if d.Create(name) == api.ErrTwice {
				d.Remove(name)
			}
		})
	case n == 13:
		w.crash(s)
		w.open(t)
	default:
		w.write(t, s.ops(keys))
	}
}

// crash takes the power of both disks away.
func (w *both) crash(s *script) {
	n := s.draw(8) - 1
	keep := make([]int, 60)
	for i := range keep {
		keep[i] = s.draw(400) - 50
	}
	w.disks(func(d *fs.Disk) { d.Crash(n, keep) })
}

// TestByWords does one thing after the other to a store, and to one by the words.
func TestByWords(t *testing.T) {
	t.Parallel()
	for n := range 40 {
		s := script(n)
		w := newBoth(t)
		for range 60 + s.draw(200) {
			s.step(t, w, 1+s.draw(3+n*10))
			if w.db == nil || w.db.Down() || w.db.Full() {
				w.crash(&s)
				w.disks(func(d *fs.Disk) { d.Quota(1 << 20) })
				w.open(t)
			}
		}
	}
}
