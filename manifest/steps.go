package manifest

import (
	"scree/api"
	"scree/frame"
	"scree/fs"
	"scree/level"
)

const (
	pointer = "current" // the file that tells which manifest's file counts
	coming  = "cur.tmp" // the next pointer, till it takes the place of the one that is there
	perPart = 4         // tables that a part of a version brings: their bytes have room in a frame, whatever they are
)

// step is something that is done on a disk.
type step func() api.Errno

// inTurn does one step after the other, up to the first error.
func inTurn(row []step) api.Errno {
	for _, do := range row {
		if e := do(); e != api.OK {
			return e
		}
	}
	return api.OK
}

// filling is the steps that lay a version down in a file of its own, up to where it is sure.
func filling(d *fs.Disk, name string, v *level.Version) []step {
	row := []step{func() api.Errno { return d.Create(name) }}
	for _, part := range parts(v.Edit()) {
		row = append(row, func() api.Errno {
			s, e := frameOf(part)
			if e != api.OK {
				return e
			}
			return d.Append(name, s)
		})
	}
	return append(row, func() api.Errno { return d.Sync(name) }, d.SyncDir)
}

// pointing is the steps that make the pointer tell a file's name. It is made sure under another name first, so that a crash finds the one that was or the one that comes, whole.
func pointing(d *fs.Disk, name string) []step {
	return []step{
		func() api.Errno {
			if _, e := d.Read(coming); e != api.OK {
				return api.OK
			}
			return d.Remove(coming) // a crash has left it
		},
		func() api.Errno { return d.Create(coming) },
		func() api.Errno { return d.Append(coming, name) },
		func() api.Errno { return d.Sync(coming) },
		func() api.Errno { return d.Rename(coming, pointer) },
		d.SyncDir,
	}
}

// removing is the steps that take manifests' files away.
func removing(d *fs.Disk, numbers []uint64) []step {
	var row []step
	for _, n := range numbers {
		row = append(row, func() api.Errno { return d.Remove(Name(n)) })
	}
	return row
}

// parts tells edits that, one after the other, make what the edit makes of no tables.
func parts(whole api.Edit) []api.Edit {
	bare := api.Edit{Next: whole.Next, Log: whole.Log, Seq: whole.Seq}
	list := []api.Edit{bare}
	room := perPart
	for l, metas := range whole.New {
		for _, m := range metas {
			if room == 0 {
				list = append(list, bare)
				room = perPart
			}
			part := &list[len(list)-1]
			part.New[l] = append(part.New[l], m)
			room--
		}
	}
	return list
}

// frameOf tells the frame of an edit's bytes.
func frameOf(e api.Edit) (string, api.Errno) {
	s, f := level.Encode(e)
	if f != api.OK {
		return "", f
	}
	return frame.Make(s)
}
