package table

import (
	"sort"
	"strings"

	"scree/api"
	"scree/merge"
	"scree/num"
)

// place is what the index tells of a block: the key and the number of its last entry, where it begins, and how many bytes it has.
type place struct {
	key         string
	seq         uint64
	begin, size uint64
}

// placeOf tells the place of a block that begins behind so many bytes.
func placeOf(entries []api.Entry, begin, size int) place {
	last := entries[len(entries)-1]
	return place{key: last.Key, seq: last.Seq, begin: uint64(begin), size: uint64(size)}
}

// ahead tells whether all of the block's entries are ahead of a key and a number.
func (p place) ahead(key string, seq uint64) bool {
	return merge.Row([]api.Entry{{Key: p.key, Seq: p.seq}, {Key: key, Seq: seq}}) // a row of two is one that is ahead of the other
}

// indexBytes tells an index's bytes.
func indexBytes(index []place) string {
	var b strings.Builder
	b.WriteString(num.Short(uint64(len(index))))
	for _, p := range index {
		b.WriteString(num.Short(uint64(len(p.key))) + p.key + num.Short(p.seq) + num.Short(p.begin) + num.Short(p.size))
	}
	return b.String()
}

// readIndex reads an index; of bytes that are none it tells anything, but no more places than a table has blocks.
func readIndex(s string) []place {
	n, rest, _ := num.Take(s)
	index := make([]place, min(n, maxBlocks))
	for i := range index {
		p := &index[i]
		p.key, rest = takeText(rest)
		p.seq, rest, _ = num.Take(rest)
		p.begin, rest, _ = num.Take(rest)
		p.size, rest, _ = num.Take(rest)
	}
	return index
}

// takeText takes a text that stands behind how many bytes it has, and tells what follows.
func takeText(s string) (string, string) {
	size, rest, _ := num.Take(s)
	return split(rest, size)
}

// split cuts a text behind so many bytes; where it hasn't as many, nothing is told.
func split(s string, size uint64) (string, string) {
	if size > uint64(len(s)) {
		return "", ""
	}
	return s[:size], s[size:]
}

// firstNotAhead tells the first block of which not all entries are ahead of a key and a number; as many as there are blocks, if there is none.
func firstNotAhead(index []place, key string, seq uint64) int {
	return sort.Search(len(index), func(i int) bool { return !index[i].ahead(key, seq) })
}
