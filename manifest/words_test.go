package manifest

import (
	"encoding/binary"
	"fmt"
	"slices"
	"testing"

	"scree/api"
	"scree/fs"
	"scree/level"
)

const top = 1 << 40 // MaxTime

// What follows, up to openByWords, is the chapter's words, taken one by one; of edits and frames those of the chapters below.

// frameByWords tells a text's frame.
func frameByWords(text string) string {
	b := binary.AppendUvarint(nil, uint64(len(text)))
	last := byte(165)
	for _, c := range []byte(text) {
		last ^= c
	}
	return string(append(append(b, text...), last))
}

// editByWords tells an edit's bytes.
func editByWords(e api.Edit) string {
	var b []byte
	number := func(n uint64) { b = binary.AppendUvarint(b, n) }
	text := func(s string) {
		number(uint64(len(s)))
		b = append(b, s...)
	}
	number(e.Next)
	number(e.Log)
	number(e.Seq)
	number(uint64(len(e.Gone)))
	for _, n := range e.Gone {
		number(n)
	}
	for _, list := range e.New {
		number(uint64(len(list)))
		for _, x := range list {
			number(x.File)
			number(uint64(x.Size))
			text(x.First)
			text(x.Last)
			number(x.Seq)
		}
	}
	return string(b)
}

// placed is a table with its level.
type placed struct {
	l    int
	meta api.Meta
}

// partsByWords tells the frames of a version's parts.
func partsByWords(v *level.Version) []string {
	next, log, seq := v.Numbers()
	var all []placed
	for l := range api.Levels {
		for _, x := range v.Level(l) {
			all = append(all, placed{l, x})
		}
	}
	var frames []string
	for i := 0; i == 0 || i < len(all); i += 4 {
		e := api.Edit{Next: next, Log: log, Seq: seq}
		for k := i; k < i+4 && k < len(all); k++ {
			e.New[all[k].l] = append(e.New[all[k].l], all[k].meta)
		}
		frames = append(frames, frameByWords(editByWords(e)))
	}
	return frames
}

// nameByWords tells a manifest's file's name.
func nameByWords(n uint64) string {
	if n < 1 || n > top {
		return ""
	}
	return fmt.Sprintf("man.%d", n)
}

// manifestsByWords tells the numbers of the manifests' files, rising.
func manifestsByWords(d *fs.Disk) []uint64 {
	var numbers []uint64
	for _, name := range d.List() {
		var n uint64
		if _, err := fmt.Sscanf(name, "man.%d", &n); err == nil && nameByWords(n) == name {
			numbers = append(numbers, n)
		}
	}
	slices.Sort(numbers)
	return numbers
}

// beginByWords begins a file of a version.
func beginByWords(d *fs.Disk, n uint64, v *level.Version) api.Errno {
	name := nameByWords(n)
	if e := d.Create(name); e != api.OK {
		return e
	}
	for _, s := range partsByWords(v) {
		if e := d.Append(name, s); e != api.OK {
			return e
		}
	}
	if e := d.Sync(name); e != api.OK {
		return e
	}
	if e := d.SyncDir(); e != api.OK {
		return e
	}
	if slices.Contains(d.List(), "cur.tmp") {
		if e := d.Remove("cur.tmp"); e != api.OK {
			return e
		}
	}
	if e := d.Create("cur.tmp"); e != api.OK {
		return e
	}
	if e := d.Append("cur.tmp", name); e != api.OK {
		return e
	}
	if e := d.Sync("cur.tmp"); e != api.OK {
		return e
	}
	if e := d.Rename("cur.tmp", "current"); e != api.OK {
		return e
	}
	return d.SyncDir()
}

// openByWords opens a manifest of a disk whose version and its file's number are known, and tells the new file's number.
func openByWords(d *fs.Disk, v *level.Version, n uint64) (uint64, api.Errno) {
	for _, k := range manifestsByWords(d) {
		n = max(n, k)
	}
	n++
	if e := beginByWords(d, n, v); e != api.OK {
		return 0, e
	}
	for _, k := range manifestsByWords(d) {
		if k == n {
			continue
		}
		if e := d.Remove(nameByWords(k)); e != api.OK {
			return 0, e
		}
	}
	return n, api.OK
}

// What follows makes disks and edits, and looks at them.

// m is a table of the keys from first to last.
func m(file uint64, first, last string) api.Meta {
	return api.Meta{File: file, Size: 7, First: first, Last: last, Seq: 3}
}

// at brings tables to one level.
func at(l int, list ...api.Meta) [api.Levels][]api.Meta {
	var n [api.Levels][]api.Meta
	n[l] = list
	return n
}

// tables is an edit that brings so many tables, to all levels in turn.
func tables(n int) api.Edit {
	e := api.Edit{Next: uint64(n) + 1, Log: 2, Seq: 3}
	for i := range n {
		k := fmt.Sprintf("k%03d", i)
		e.New[i%4] = append(e.New[i%4], m(uint64(i)+1, k, k+"z"))
	}
	return e
}

// sized is an edit that has so many bytes: as many tables with long keys as have room, and one or two that fill it up.
func sized(t *testing.T, size int) api.Edit {
	t.Helper()
	e := api.Edit{Next: 100, Seq: 9}
	key := func(i, n int) string { return (fmt.Sprintf("%c", '0'+i) + string(make([]byte, n)))[:n] }
	for i := 0; len(editByWords(e)) < size; i++ {
		room := min(size-len(editByWords(e)), 5+100+100)
		if left := size - len(editByWords(e)) - room; 0 < left && left < 7 {
			room -= 7 // the least table needs so many
		}
		first := (room - 5) / 2
		x := api.Meta{File: uint64(i) + 1, Size: 1, First: key(i, first), Last: key(i, room-5-first), Seq: 1}
		e.New[i/30] = append(e.New[i/30], x)
	}
	if n := len(editByWords(e)); n != size {
		t.Fatalf("an edit of %d bytes, not %d", n, size)
	}
	return e
}

// apply tells the version that comes of edits that must be right.
func apply(t *testing.T, v *level.Version, edits ...api.Edit) *level.Version {
	t.Helper()
	for _, x := range edits {
		w, e := v.Apply(x)
		if e != api.OK {
			t.Fatalf("Apply: %d", e)
		}
		v = w
	}
	return v
}

// open opens a manifest that must open.
func open(t *testing.T, d *fs.Disk) *Manifest {
	t.Helper()
	k, e := Open(d)
	if e != api.OK || k == nil {
		t.Fatalf("Open: %v, %d", k, e)
	}
	return k
}

func checkAdd(t *testing.T, k *Manifest, x api.Edit, want api.Errno) {
	t.Helper()
	if e := k.Add(x); e != want {
		t.Errorf("Add: %d, not %d", e, want)
	}
}

// told tells a version as text.
func told(v *level.Version) string {
	if v == nil {
		return "none"
	}
	return editByWords(v.Edit())
}

// checkManifest holds what a manifest tells against what it should.
func checkManifest(t *testing.T, k *Manifest, v *level.Version, n uint64, broken bool) {
	t.Helper()
	if k.Number() != n || k.Broken() != broken || told(k.Version()) != told(v) {
		t.Errorf("%d, %v, %x, not %d, %v, %x", k.Number(), k.Broken(), told(k.Version()), n, broken, told(v))
	}
}

// checkRead holds what a disk tells against a version and a number that it should have.
func checkRead(t *testing.T, d *fs.Disk, v *level.Version, n uint64) {
	t.Helper()
	if w, k, e := Read(d); told(w) != told(v) || k != n || e != api.OK {
		t.Errorf("Read: %x, %d, %d, not %x, %d", told(w), k, e, told(v), n)
	}
}

// checkWrong holds that a disk has no version, and why.
func checkWrong(t *testing.T, d *fs.Disk, want api.Errno) {
	t.Helper()
	if v, n, e := Read(d); v != nil || n != 0 || e != want {
		t.Errorf("Read: %v, %d, %d, not %d", v, n, e, want)
	}
}

func checkNoOpen(t *testing.T, d *fs.Disk, want api.Errno) {
	t.Helper()
	if k, e := Open(d); k != nil || e != want {
		t.Errorf("Open: %v, %d, not %d", k, e, want)
	}
}

// lay makes a file of bytes, that are sure.
func lay(t *testing.T, d *fs.Disk, name, b string) {
	t.Helper()
	for _, e := range []api.Errno{d.Create(name), d.Append(name, b), d.Sync(name), d.SyncDir()} {
		if e != api.OK {
			t.Fatalf("%s: %d", name, e)
		}
	}
}

// pointed is a disk whose pointer tells the manifest 7, that has these bytes.
func pointed(t *testing.T, b string) *fs.Disk {
	t.Helper()
	d := fs.New()
	lay(t, d, "current", "man.7")
	lay(t, d, "man.7", b)
	return d
}

// state tells all that a disk tells of itself.
func state(d *fs.Disk) string {
	var list []string
	for _, name := range d.List() {
		b, _ := d.Read(name)
		list = append(list, name, b)
	}
	changes, size := d.Loose()
	return fmt.Sprintf("%q, loose %d, %d, dead %v", list, changes, size, d.Dead())
}

func checkState(t *testing.T, d *fs.Disk, want string) {
	t.Helper()
	if got := state(d); got != want {
		t.Errorf("%s, not %s", got, want)
	}
}

func checkList(t *testing.T, d *fs.Disk, want ...string) {
	t.Helper()
	if got := d.List(); !slices.Equal(got, want) {
		t.Errorf("%v, not %v", got, want)
	}
}
