package lsm

import (
	"scree/api"
	"scree/merge"
	"scree/table"
)

// source is where entries are read: memory, or a table.
type source interface {
	Get(key string, seq uint64) (api.Entry, bool)
	From(key string, n int) []api.Entry
}

// sources tells where all entries are.
func (db *DB) sources() []source {
	list := []source{db.mem}
	for _, m := range db.metas() {
		list = append(list, db.tables[m.File])
	}
	return list
}

// metas tells all tables of the version, level by level.
func (db *DB) metas() []api.Meta {
	var list []api.Meta
	for l := range api.Levels {
		list = append(list, db.Level(l)...)
	}
	return list
}

// Get tells a key's value.
func (db *DB) Get(key string) (string, bool) {
	var rows [][]api.Entry
	for _, s := range db.sources() {
		if x, is := s.Get(key, api.MaxTime); is {
			rows = append(rows, []api.Entry{x})
		}
	}
	x, is := merge.Get(rows, key, api.MaxTime)
	if !is || x.Del {
		return "", false
	}
	return x.Value, true
}

// Scan tells keys and values from a key to another one.
func (db *DB) Scan(from, to string) []api.Entry {
	var rows [][]api.Entry
	for _, s := range db.sources() {
		rows = append(rows, between(s, from, to))
	}
	all, _ := merge.All(rows) // what is read of a source is a row
	seen, _ := merge.Seen(all, api.MaxTime)
	return seen
}

// between tells a source's entries from a key to another one. It reads on only as long as more may be there: few lie between, where a source has many.
func between(s source, from, to string) []api.Entry {
	for n := table.PerBlock; ; n *= 2 {
		row := s.From(from, n)
		if len(row) < n || to != "" && row[n-1].Key >= to {
			row, _ = merge.Between(row, from, to)
			return row
		}
	}
}
