package level

import (
	"strings"

	"scree/api"
	"scree/num"
)

// maxGone is how many tables an edit may take away: as many as a version may have.
const maxGone = api.Levels * api.MaxMetas

// Encode tells an edit's bytes.
func Encode(e api.Edit) (string, api.Errno) {
	if !hasBytes(e) {
		return "", api.ErrForm
	}
	var b strings.Builder
	b.WriteString(shorts(e.Next, e.Log, e.Seq, uint64(len(e.Gone))))
	b.WriteString(shorts(e.Gone...))
	for _, list := range e.New {
		b.WriteString(shorts(uint64(len(list))))
		for _, m := range list {
			b.WriteString(metaBytes(m))
		}
	}
	return b.String(), api.OK
}

// hasBytes tells whether an edit has bytes; whether it can be applied is another thing, that hangs on the version.
func hasBytes(e api.Edit) bool {
	if len(e.Gone) > maxGone || tooMany(e.New, tables{}) {
		return false
	}
	for _, n := range append([]uint64{e.Next, e.Log, e.Seq}, e.Gone...) {
		if n > api.MaxTime {
			return false
		}
	}
	return tables(e.New).all(May)
}

// shorts tells the short bytes of numbers, one behind the other.
func shorts(list ...uint64) string {
	var b strings.Builder
	for _, n := range list {
		b.WriteString(num.Short(n))
	}
	return b.String()
}

// metaBytes tells a meta's bytes.
func metaBytes(m api.Meta) string {
	return shorts(m.File, uint64(m.Size)) + sized(m.First) + sized(m.Last) + shorts(m.Seq)
}

// sized tells a text behind how many bytes it has.
func sized(text string) string { return shorts(uint64(len(text))) + text }

// Decode tells the edit that bytes are.
func Decode(s string) (api.Edit, api.Errno) {
	r := reader{s}
	e := r.edit()
	again, f := Encode(e)
	if f != api.OK || again != s { // just what Encode makes is an edit's bytes, whatever else may be read as one
		return api.Edit{}, api.ErrForm
	}
	return e, api.OK
}

// reader takes numbers and texts from bytes. Whether they are there, it doesn't ask: of bytes that are no edit's it tells any edit.
type reader struct{ rest string }

func (r *reader) number() uint64 {
	n, rest, _ := num.Take(r.rest)
	r.rest = rest
	return n
}

// count takes how many things follow; a number that bytes merely claim is no work to do, if so many may not be.
func (r *reader) count(most uint64) uint64 { return min(r.number(), most) }

// text takes a text that stands behind how many bytes it has, or as much of it as there is.
func (r *reader) text() string {
	told := r.number() // taken ahead, by itself: rest is another one behind it
	size := min(told, uint64(len(r.rest)))
	text := r.rest[:size]
	r.rest = r.rest[size:]
	return text
}

func (r *reader) edit() api.Edit {
	e := api.Edit{Next: r.number(), Log: r.number(), Seq: r.number()}
	for range r.count(maxGone) {
		e.Gone = append(e.Gone, r.number())
	}
	for l := range e.New {
		for range r.count(api.MaxMetas) {
			e.New[l] = append(e.New[l], r.meta())
		}
	}
	return e
}

func (r *reader) meta() api.Meta {
	return api.Meta{File: r.number(), Size: int(r.number()), First: r.text(), Last: r.text(), Seq: r.number()}
}
