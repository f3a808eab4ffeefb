package block

import (
	"scree/api"
	"scree/num"
)

// cursor is where bytes are read: what is left of them. Where they begin with no number, or end too soon, nothing is left, and from there on zero values are told.
type cursor struct{ rest string }

// number takes a number's short bytes.
func (c *cursor) number() uint64 {
	n, behind, _ := num.Take(c.rest)
	c.rest = behind
	return n
}

// piece takes so many bytes, but no more than any text in a block may have.
func (c *cursor) piece(size uint64) string {
	if size > api.MaxText || size > uint64(len(c.rest)) {
		c.rest = ""
		return ""
	}
	front := c.rest[:size]
	c.rest = c.rest[size:]
	return front
}

// text takes a text that stands behind how many bytes it has.
func (c *cursor) text() string { return c.piece(c.number()) }

// marked takes a byte, and tells whether it is that of an entry that was taken away.
func (c *cursor) marked() bool { return c.piece(1) == delMark }

// reader reads a block's entries, one by one, where its cursor is; it remembers the key ahead, which the next one's beginning is cut from.
type reader struct {
	cursor
	ahead string
}

// entry takes an entry; whether it may be, and is told by the bytes that Encode makes, it doesn't ask.
func (r *reader) entry() api.Entry {
	var x api.Entry
	shared := min(r.number(), uint64(len(r.ahead)))
	x.Key = r.ahead[:shared] + r.text()
	x.Seq = r.number()
	x.Del = r.marked()
	x.Value = r.text()
	r.ahead = x.Key
	return x
}
