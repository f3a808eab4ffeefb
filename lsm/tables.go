package lsm

import (
	"slices"

	"scree/api"
	"scree/mem"
	"scree/merge"
	"scree/table"
	"scree/wal"
)

// sheet is a table that was written, and its meta.
type sheet struct {
	meta  api.Meta
	table *table.Table
}

// chunks parts a row into rows of which each comes into a table.
func chunks(row []api.Entry) [][]api.Entry {
	return slices.Collect(slices.Chunk(row, PerTable))
}

// writeAll writes rows, in order, and makes sure that their files are there.
func (db *DB) writeAll(rows [][]api.Entry) ([]sheet, api.Errno) {
	if len(rows) == 0 {
		return nil, api.OK
	}
	var sheets []sheet
	for _, row := range rows {
		s, e := db.writeRow(row)
		if e != api.OK {
			return nil, e
		}
		sheets = append(sheets, s)
	}
	if e := db.disk.SyncDir(); e != api.OK {
		return nil, e
	}
	return sheets, api.OK
}

// writeRow writes a row into a file of its own.
func (db *DB) writeRow(row []api.Entry) (sheet, api.Errno) {
	n := db.take()
	b, e := table.Build(row)
	if e != api.OK {
		return sheet{}, e
	}
	name := Name(n)
	for _, do := range []func() api.Errno{
		func() api.Errno { return db.disk.Create(name) },
		func() api.Errno { return db.disk.Append(name, b) },
		func() api.Errno { return db.disk.Sync(name) },
	} {
		if e := do(); e != api.OK {
			return sheet{}, e
		}
	}
	t, e := table.Open(b)
	if e != api.OK {
		return sheet{}, e
	}
	return sheet{metaOf(n, len(b), row), t}, api.OK
}

// metaOf tells the meta of a row's table.
func metaOf(n uint64, size int, row []api.Entry) api.Meta {
	m := api.Meta{File: n, Size: size, First: row[0].Key, Last: row[len(row)-1].Key}
	for _, x := range row {
		m.Seq = max(m.Seq, x.Seq)
	}
	return m
}

// add changes the version: tables come to a level, and what else the edit says.
func (db *DB) add(e api.Edit, l int, sheets []sheet) api.Errno {
	e.Next = db.next
	for _, s := range sheets {
		e.New[l] = append(e.New[l], s.meta)
	}
	if f := db.manifest.Add(e); f != api.OK {
		return f
	}
	for _, n := range e.Gone {
		delete(db.tables, n)
	}
	for _, s := range sheets {
		db.tables[s.meta.File] = s.table
	}
	return api.OK
}

// flush brings what is in memory into tables, and goes on with a new log.
func (db *DB) flush() api.Errno {
	if db.mem.Len() == 0 {
		return api.OK
	}
	log, e := db.settle()
	if e != api.OK {
		return e
	}
	if e := wal.Remove(db.disk, db.log.Number()); e != api.OK {
		return e
	}
	db.log, db.mem = log, mem.New()
	return api.OK
}

// settle brings what is in memory into tables of level 0, and tells the log that is to follow.
func (db *DB) settle() (*wal.Log, api.Errno) {
	if e := db.thin(); e != api.OK {
		return nil, e
	}
	n := db.take()
	log, e := wal.Create(db.disk, n)
	if e != api.OK {
		return nil, e
	}
	row, e := merge.Newest(db.mem.All(), api.MaxTime)
	if e != api.OK {
		return nil, e
	}
	rows := chunks(row)
	slices.Reverse(rows) // level 0 has the greatest number first: so its tables are in the order of keys
	sheets, e := db.writeAll(rows)
	if e != api.OK {
		return nil, e
	}
	if e := db.add(api.Edit{Log: log.Number(), Seq: db.seq}, 0, sheets); e != api.OK {
		return nil, e
	}
	return log, api.OK
}

// thin makes room in level 0.
func (db *DB) thin() api.Errno {
	for len(db.Level(0)) >= MaxTop {
		if e := db.compact(0, 0, nil); e != api.OK {
			return e
		}
	}
	return api.OK
}
