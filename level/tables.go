package level

import (
	"cmp"
	"slices"

	"scree/api"
)

// tables is metas in levels. As an array it is copied where it is handed over: the levels of what was handed stay, whatever lists are put in their places.
type tables [api.Levels][]api.Meta

// copied tells the same tables in lists of their own.
func (t tables) copied() tables {
	for l := range t {
		t[l] = slices.Clone(t[l])
	}
	return t
}

// all tells whether each table is so.
func (t tables) all(is func(m api.Meta) bool) bool {
	for _, list := range t {
		for _, m := range list {
			if !is(m) {
				return false
			}
		}
	}
	return true
}

// files tells the tables' numbers, rising.
func (t tables) files() []uint64 {
	var files []uint64
	for _, list := range t {
		for _, m := range list {
			files = append(files, m.File)
		}
	}
	slices.Sort(files)
	return files
}

// without tells what stays when some go, and whether each of these is there, once.
func (t tables) without(gone []uint64) (tables, bool) {
	left := t.files()
	for _, file := range gone {
		i, is := slices.BinarySearch(left, file)
		if !is {
			return tables{}, false
		}
		left = slices.Delete(left, i, i+1)
	}
	t = t.copied()
	for l := range t {
		t[l] = slices.DeleteFunc(t[l], func(m api.Meta) bool { return slices.Contains(gone, m.File) })
	}
	return t, true
}

// twice tells whether two of all these tables have the same number.
func twice(a, b tables) bool {
	files := slices.Concat(a.files(), b.files())
	slices.Sort(files)
	return len(slices.Compact(files)) < len(files)
}

// tooMany tells whether a level would have more tables than it may have.
func tooMany(a, b tables) bool {
	for l := range api.Levels {
		if len(a[l])+len(b[l]) > api.MaxMetas {
			return true
		}
	}
	return false
}

// together tells all these tables, each level in its order.
func together(a, b tables) tables {
	var all tables
	for l := range all {
		all[l] = slices.Concat(a[l], b[l])
		slices.SortFunc(all[l], orderOf(l))
	}
	return all
}

// orderOf tells how a level's tables are held against each other: the newest first, where ranges may meet; else by their keys.
func orderOf(l int) func(a, b api.Meta) int {
	if l == 0 {
		return func(a, b api.Meta) int { return cmp.Compare(b.File, a.File) }
	}
	return func(a, b api.Meta) int { return cmp.Compare(a.First, b.First) }
}

// apart tells whether no two ranges of a level meet, but of level 0.
func (t tables) apart() bool {
	for _, list := range t[1:] {
		for i := 1; i < len(list); i++ { // if any two meet, so do two neighbours: they are in order of First
			if spanOf(list[i-1]).meets(spanOf(list[i])) {
				return false
			}
		}
	}
	return true
}

// meeting tells a level's tables whose ranges meet a range, in order.
func (t tables) meeting(l int, s span) []api.Meta {
	var list []api.Meta
	for _, m := range t[l] {
		if spanOf(m).meets(s) {
			list = append(list, m)
		}
	}
	return list
}

// linked tells a level's tables that meet a range, or what it is with such tables, and so on; and what it is in the end. In a level whose ranges don't meet, a table's own range is linked to that table alone.
func (t tables) linked(l int, s span) ([]api.Meta, span) {
	for {
		list := t.meeting(l, s)
		wider := s.over(list)
		if wider == s {
			return list, s
		}
		s = wider
	}
}

// below tells whether a table of a level below l, which are those with greater numbers, meets a range.
func (t tables) below(l int, s span) bool {
	for deeper := l + 1; deeper < api.Levels; deeper++ {
		if len(t.meeting(deeper, s)) > 0 {
			return true
		}
	}
	return false
}

// span is a range: from a first key to a last one.
type span struct{ first, last string }

func spanOf(m api.Meta) span { return span{m.First, m.Last} }

// meets tells whether neither's last is below the other one's first.
func (s span) meets(o span) bool { return s.last >= o.first && o.last >= s.first }

// over tells the range of it and of some tables.
func (s span) over(list []api.Meta) span {
	for _, m := range list {
		s = span{min(s.first, m.First), max(s.last, m.Last)}
	}
	return s
}
