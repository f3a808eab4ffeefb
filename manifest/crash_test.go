package manifest

import (
	"fmt"
	"testing"

	"scree/api"
	"scree/fs"
	"scree/level"
)

// P13.5: behind any crash the version is that of all edits that were told OK, or that and the one that was being laid down.

// keeps are how much of the loose bytes of a disk's files a crash may keep.
func keeps() [][]int {
	return [][]int{nil, {99, 99, 99, 99}, {3, 3, 3, 3}, {0, 9999, 0, 9999}, {9999, 0, 9999, 0}, {1, 8, 20, 1}}
}

// checkOneOf holds what a disk tells against two versions of which it should have one, and tells that.
func checkOneOf(t *testing.T, d *fs.Disk, sure, maybe *level.Version) *level.Version {
	t.Helper()
	v, _, e := Read(d)
	switch {
	case e != api.OK:
		t.Fatalf("Read: %d", e)
	case told(v) != told(sure) && told(v) != told(maybe):
		t.Fatalf("Read: %x, neither %x nor %x", told(v), told(sure), told(maybe))
	}
	return v
}

// checkOpens holds that a disk opens to a version, that it has no other manifest then, and that it goes on.
func checkOpens(t *testing.T, d *fs.Disk, v *level.Version) {
	t.Helper()
	k := open(t, d)
	checkManifest(t, k, v, k.Number(), false)
	checkList(t, d, "current", Name(k.Number()))
	next, _, _ := v.Numbers()
	x := api.Edit{Next: next + 1}
	checkAdd(t, k, x, api.OK)
	d.Crash(0, nil)
	checkRead(t, d, apply(t, v, x), k.Number())
}

// TestACrashWhileAnEditIsLaid keeps each beginning of its bytes.
func TestACrashWhileAnEditIsLaid(t *testing.T) {
	x := api.Edit{Gone: []uint64{2}, New: at(0, m(9, "a", "b")), Next: 10}
	size := len(frameByWords(editByWords(x)))
	before := apply(t, level.New(), tables(6))
	after := apply(t, before, x)
	for fuse := range 4 {
		for keep := -1; keep <= size+1; keep++ {
			d := fs.New()
			k := open(t, d)
			checkAdd(t, k, tables(6), api.OK)
			d.Fuse(fuse)
			if e := k.Add(x); (e == api.OK) != (fuse >= 2) {
				t.Fatalf("fuse %d: %d", fuse, e)
			}
			d.Crash(keep%3, []int{0, keep})
			want := before
			if fuse >= 2 || fuse == 1 && keep >= size {
				want = after
			}
			checkRead(t, d, want, 1)
			checkOpens(t, d, want)
		}
	}
}

// TestACrashWhileItIsOpened lets each step of an opening be the last one, and then each of the next opening.
func TestACrashWhileItIsOpened(t *testing.T) {
	v := apply(t, level.New(), tables(6))
	for fuse := range 14 {
		for _, keep := range keeps() {
			for again := range 15 {
				d := fs.New()
				checkAdd(t, open(t, d), tables(6), api.OK)
				d.Fuse(fuse)
				Open(d)
				d.Crash(again%5, keep)
				checkOneOf(t, d, v, v)
				d.Fuse(again)
				Open(d)
				d.Crash(fuse%5, keep)
				checkOneOf(t, d, v, v)
				checkOpens(t, d, v)
			}
		}
	}
}

// A first manifest that was never told OK has no version, or that without tables.
func TestACrashWhileADiskIsOpenedFirst(t *testing.T) {
	for fuse := range 12 {
		for changes := range 5 {
			for _, keep := range keeps() {
				d := fs.New()
				d.Fuse(fuse)
				k, e := Open(d)
				d.Crash(changes, keep)
				v, _, f := Read(d)
				if (k != nil) != (e == api.OK) || f != api.OK && (f != api.ErrNone || e == api.OK) || f == api.OK && told(v) != told(level.New()) {
					t.Errorf("fuse %d: %d, %d, %x", fuse, e, f, told(v))
				}
				checkOpens(t, d, level.New())
			}
		}
	}
}

// An opening that has no room leaves what there is, and what it left is in nobody's way.
func TestAnOpeningThatFailsLeavesTheVersion(t *testing.T) {
	v := apply(t, level.New(), tables(9))
	for quota := 0; ; quota++ {
		d := fs.New()
		checkAdd(t, open(t, d), tables(9), api.OK)
		d.Quota(d.Size() + quota)
		_, e := Open(d)
		if e == api.OK {
			break
		}
		if e != api.ErrFull {
			t.Fatalf("quota %d: %d", quota, e)
		}
		checkRead(t, d, v, 1)
		d.Crash(quota%3, nil)
		checkRead(t, d, v, 1)
		d.Quota(1 << 20)
		checkOpens(t, d, v)
	}
}

// script is a disk with a manifest, to which one thing after the other happens; what it should tell is known.
type script struct {
	disk        *fs.Disk
	open        *Manifest // none, if the last opening failed
	sure, maybe *level.Version
	state       uint64
}

// draw tells a number below n, each time another one, but in each run the same ones.
func (s *script) draw(n int) int {
	s.state = s.state*6364136223846793005 + 1442695040888963407
	return int(s.state >> 33 % uint64(n))
}

// edit makes an edit that can be applied, but for some that bring too much.
func (s *script) edit() api.Edit {
	next, _, seq := s.sure.Numbers()
	e := api.Edit{Seq: seq + 1}
	for i := range s.draw(6) {
		n := next + uint64(i)
		k := fmt.Sprintf("k%06d", n)
		l := s.draw(4)
		e.New[l] = append(e.New[l], api.Meta{File: n, Size: 1 + s.draw(500), First: k, Last: k + "z", Seq: seq + 1})
		e.Next = n + 1
	}
	for _, n := range s.sure.Files() {
		if s.draw(6) == 0 {
			e.Gone = append(e.Gone, n)
		}
	}
	return e
}

func (s *script) add(t *testing.T) {
	t.Helper()
	if s.open == nil {
		return
	}
	x := s.edit()
	next, want := s.sure.Apply(x)
	broken := s.open.Broken()
	e := s.open.Add(x)
	switch {
	case broken:
		if e != api.ErrDown {
			t.Fatalf("Add to a broken one: %d", e)
		}
	case want != api.OK:
		if e != want {
			t.Fatalf("Add: %d, not %d", e, want)
		}
	case e == api.OK:
		s.sure, s.maybe = next, next
	case e == api.ErrDown:
		s.maybe = next
	case e != api.ErrFull:
		t.Fatalf("Add: %d", e)
	}
	if told(s.open.Version()) != told(s.sure) {
		t.Fatalf("%x, not %x", told(s.open.Version()), told(s.sure))
	}
}

// reopen opens the manifest anew. Whether the edit was laid that was under way counts from then on.
func (s *script) reopen(t *testing.T) {
	t.Helper()
	k, e := Open(s.disk)
	s.open = k
	if e != api.OK && e != api.ErrDown && e != api.ErrFull && e != api.ErrMany {
		t.Fatalf("Open: %d", e)
	}
	if k != nil {
		if v := told(k.Version()); v != told(s.sure) && v != told(s.maybe) {
			t.Fatalf("Open: %x, neither %x nor %x", v, told(s.sure), told(s.maybe))
		}
		s.sure, s.maybe = k.Version(), k.Version()
	}
}

func (s *script) crash(t *testing.T) {
	t.Helper()
	keep := make([]int, 8)
	for i := range keep {
		keep[i] = s.draw(200) - 20
	}
	s.disk.Crash(s.draw(6)-1, keep)
	s.sure = checkOneOf(t, s.disk, s.sure, s.maybe)
	s.maybe = s.sure
	s.reopen(t)
}

func TestManyCrashes(t *testing.T) {
	for n := range 200 {
		s := &script{disk: fs.New(), sure: level.New(), maybe: level.New(), state: uint64(n)}
		s.reopen(t)
		for range 60 {
			switch s.draw(12) {
			case 0, 1:
				s.disk.Fuse(s.draw(25))
			case 2, 3:
				s.crash(t)
			case 4:
				s.reopen(t)
			case 5:
				s.disk.Quota(s.disk.Size() + s.draw(400))
			case 6:
				s.disk.Quota(1 << 20)
			default:
				s.add(t)
			}
			if s.disk.Dead() && s.draw(3) == 0 {
				s.crash(t)
			}
			checkOneOf(t, s.disk, s.sure, s.maybe)
		}
		s.disk.Quota(1 << 20)
		s.disk.Fuse(-1)
		s.crash(t)
		if s.open != nil {
			checkOpens(t, s.disk, s.sure)
		}
	}
}

func TestTheSameCallsAnswerTheSame(t *testing.T) {
	play := func() string {
		s := &script{disk: fs.New(), sure: level.New(), maybe: level.New(), state: 5}
		s.reopen(t)
		text := ""
		for i := range 60 {
			s.disk.Fuse(i % 20)
			s.add(t)
			s.add(t)
			text += state(s.disk)
			s.crash(t)
			v, n, e := Read(s.disk)
			text += fmt.Sprint(told(v), n, e, Numbers(s.disk))
		}
		return text
	}
	first := play()
	for range 3 {
		if play() != first {
			t.Fatal("it tells something else")
		}
	}
}
