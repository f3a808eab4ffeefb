package lsm

import (
	"slices"

	"scree/api"
	"scree/batch"
	"scree/fs"
	"scree/manifest"
	"scree/mem"
	"scree/table"
	"scree/wal"
)

// Open opens a store.
func Open(d *fs.Disk) (*DB, api.Errno) {
	m, e := manifest.Open(d)
	if e != api.OK {
		return nil, e
	}
	logs := wal.Numbers(d)
	db := &DB{disk: d, manifest: m, mem: mem.New(), tables: map[uint64]*table.Table{}, next: firstFree(m, logs)}
	for _, do := range []func() api.Errno{
		db.clear,
		db.readTables,
		func() api.Errno { return db.replay(logs) },
		func() api.Errno { return db.begin(logs) },
	} {
		if e := do(); e != api.OK {
			return nil, e
		}
	}
	return db, api.OK
}

// firstFree tells the first number that neither the version has given out, nor a log has: one may have been begun of which the version tells nothing.
func firstFree(m *manifest.Manifest, logs []uint64) uint64 {
	free, _, _ := m.Version().Numbers()
	for _, n := range logs {
		free = max(free, n+1)
	}
	return free
}

// clear removes the files of tables that the version hasn't got: they were merged, or never came to be.
func (db *DB) clear() api.Errno {
	files := db.manifest.Version().Files()
	for _, name := range db.disk.List() {
		n, is := number(name)
		if !is || slices.Contains(files, n) {
			continue
		}
		if e := db.disk.Remove(name); e != api.OK {
			return e
		}
	}
	return api.OK
}

// readTables reads each table of the version.
func (db *DB) readTables() api.Errno {
	for _, n := range db.manifest.Version().Files() {
		s, e := db.disk.Read(Name(n))
		if e != api.OK {
			return api.ErrForm
		}
		t, e := table.Open(s)
		if e != api.OK {
			return e
		}
		db.tables[n] = t
	}
	return api.OK
}

// replay puts what the logs tell into memory, but what is in tables.
func (db *DB) replay(logs []uint64) api.Errno {
	_, first, flushed := db.manifest.Version().Numbers()
	db.seq = flushed
	for _, n := range logs {
		if n < first {
			continue
		}
		texts, e := wal.Replay(db.disk, n)
		if e != api.OK {
			return e
		}
		for _, text := range texts {
			if e := db.putAbove(flushed, text); e != api.OK {
				return e
			}
		}
	}
	return api.OK
}

// putAbove puts the entries of a batch, that a text must be, whose numbers are above a number.
func (db *DB) putAbove(flushed uint64, text string) api.Errno {
	first, ops, e := batch.Decode(text)
	if e != api.OK {
		return e
	}
	for _, x := range batch.Entries(first, ops) {
		if x.Seq <= flushed {
			continue
		}
		if e := db.mem.Put(x, 1); e != api.OK {
			return api.ErrForm
		}
		db.seq = max(db.seq, x.Seq)
	}
	return api.OK
}

// begin brings what is in memory into tables, begins a log, and removes the logs that were there.
func (db *DB) begin(logs []uint64) api.Errno {
	log, e := db.settle()
	if e != api.OK {
		return e
	}
	db.log, db.mem = log, mem.New()
	for _, n := range logs { // each is below the new one
		if e := wal.Remove(db.disk, n); e != api.OK {
			return e
		}
	}
	return api.OK
}
