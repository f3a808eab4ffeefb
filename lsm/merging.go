package lsm

import (
	"slices"

	"scree/api"
	"scree/merge"
)

// merging is tables that are merged, and what is done to the row that they are together.
type merging struct {
	tables []api.Meta // of entries that are the same, the first one's counts
	into   int        // the level that what is left comes to
	bottom bool       // nothing of these keys is below: what was taken away needs no entry any more
	filter Filter     // none: all of the row is left
}

// compact merges what is picked of a level.
func (db *DB) compact(l, k int, f Filter) api.Errno {
	p, e := db.manifest.Version().Pick(l, k)
	if e != api.OK {
		return e
	}
	return db.merge(merging{tables: slices.Concat(p.From, p.Into), into: l + 1, bottom: p.Bottom, filter: f})
}

// whole merges all there is.
func (db *DB) whole(f Filter) api.Errno {
	if e := db.flush(); e != api.OK {
		return e
	}
	all := db.metas()
	if len(all) == 0 {
		return api.OK
	}
	return db.merge(merging{tables: all, into: api.Levels - 1, bottom: true, filter: f})
}

// merge puts what is left of some tables into their place.
func (db *DB) merge(m merging) api.Errno {
	var rows [][]api.Entry
	var gone []uint64
	for _, t := range m.tables {
		rows = append(rows, db.tables[t.File].All())
		gone = append(gone, t.File)
	}
	all, e := merge.All(rows)
	if e != api.OK {
		return e
	}
	newest, e := merge.Newest(all, api.MaxTime)
	if e != api.OK {
		return e
	}
	sheets, e := db.writeAll(chunks(m.left(newest)))
	if e != api.OK {
		return e
	}
	if e := db.add(api.Edit{Gone: gone}, m.into, sheets); e != api.OK {
		return e
	}
	for _, n := range gone {
		if e := db.disk.Remove(Name(n)); e != api.OK {
			return e
		}
	}
	return api.OK
}

// left tells what is left of a row.
func (m merging) left(row []api.Entry) []api.Entry {
	if m.filter != nil {
		row = m.filtered(row)
	}
	if m.bottom {
		row = slices.DeleteFunc(row, func(x api.Entry) bool { return x.Del })
	}
	return row
}

// filtered tells what the filter leaves of a row. It is handed another row, and what it tells is taken over into a third: it may keep and change its own. One that panics has told nothing.
func (m merging) filtered(row []api.Entry) (left []api.Entry) {
	defer func() {
		if recover() != nil {
			left = row
		}
	}()
	told := m.filter(slices.Clone(row), m.bottom)
	if !isPart(told, row) {
		return row
	}
	return slices.Clone(told)
}

// isPart tells whether entries are some of a row's, in its order.
func isPart(l, row []api.Entry) bool {
	for _, x := range l {
		i := slices.Index(row, x)
		if i < 0 {
			return false
		}
		row = row[i+1:]
	}
	return true
}
