package block

import (
	"encoding/binary"
	"fmt"
	"math"
	"runtime"
	"slices"
	"strings"
	"testing"

	"scree/api"
)

func value(key string, seq uint64, v string) api.Entry {
	return api.Entry{Key: key, Seq: seq, Value: v}
}

func del(key string, seq uint64) api.Entry { return api.Entry{Key: key, Seq: seq, Del: true} }

func list(l ...api.Entry) []api.Entry { return l }

// What follows, up to decodeByWords, is the chapter's words, by the library's means and without an eye to what it costs.

func aheadByWords(x api.Entry, key string, seq uint64) bool {
	c := strings.Compare(x.Key, key)
	return c < 0 || c == 0 && x.Seq > seq
}

func isBlockByWords(l []api.Entry) bool {
	if len(l) == 0 || len(l) > 32 {
		return false
	}
	for i, x := range l {
		if x.Key == "" || len(x.Key) > 100 || len(x.Value) > 100 || x.Del && x.Value != "" || x.Seq == 0 || x.Seq > 1<<40 {
			return false
		}
		if i > 0 && !aheadByWords(l[i-1], x.Key, x.Seq) {
			return false
		}
	}
	return true
}

// sharedByWords tells how long the longest text is that both begin with.
func sharedByWords(a, b string) int {
	n := 0
	for i := range len(a) + 1 {
		if strings.HasPrefix(b, a[:i]) {
			n = i
		}
	}
	return n
}

// bytesByWords tells the bytes, whether it is a block or not.
func bytesByWords(l []api.Entry) string {
	var b, places []byte
	for i, x := range l {
		shared := 0
		if i%4 == 0 {
			places = binary.BigEndian.AppendUint64(places, uint64(len(b)))
		} else {
			shared = sharedByWords(l[i-1].Key, x.Key)
		}
		b = binary.AppendUvarint(b, uint64(shared))
		b = binary.AppendUvarint(b, uint64(len(x.Key)-shared))
		b = append(b, x.Key[shared:]...)
		b = binary.AppendUvarint(b, x.Seq)
		if x.Del {
			b = append(b, 1)
		} else {
			b = append(b, 0)
		}
		b = binary.AppendUvarint(b, uint64(len(x.Value)))
		b = append(b, x.Value...)
	}
	return string(b) + string(places) + string(binary.BigEndian.AppendUint64(nil, uint64(len(l))))
}

// decodeByWords tells what Decode should: it reads by the library's way, that takes more than may be, and holds the words' bytes against s.
func decodeByWords(s string) ([]api.Entry, bool) {
	if len(s) < 8 {
		return nil, false
	}
	b, good := []byte(s), true
	number := func() uint64 {
		n, size := binary.Uvarint(b)
		if size <= 0 {
			good, b = false, nil
			return 0
		}
		b = b[size:]
		return n
	}
	text := func() string {
		n := number()
		if n > uint64(len(b)) {
			good = false
			return ""
		}
		out := string(b[:n])
		b = b[n:]
		return out
	}
	var l []api.Entry
	key := ""
	for range min(binary.BigEndian.Uint64([]byte(s[len(s)-8:])), 33) {
		shared := number()
		if shared > uint64(len(key)) {
			return nil, false
		}
		key = key[:shared] + text()
		l = append(l, api.Entry{Key: key, Seq: number(), Del: number() == 1, Value: text()})
	}
	if !good || !isBlockByWords(l) || bytesByWords(l) != s {
		return nil, false
	}
	return l, true
}

// random draws numbers that are the same each time.
type random uint64

func (r *random) below(n int) int {
	*r = *r*6364136223846793005 + 1442695040888963407
	return int(uint64(*r)>>33) % n
}

// text draws a text of up to so many bytes, of few letters, so that beginnings are shared.
func (r *random) text(most int) string {
	b := make([]byte, r.below(most+1))
	for i := range b {
		b[i] = "aab\xff"[r.below(4)]
	}
	return string(b)
}

// block draws a row of 1 to 32 entries that may be a block.
func (r *random) block() []api.Entry {
	var l []api.Entry
	most := 1 + r.below(9)
	if r.below(4) == 0 {
		most = 99
	}
	for range 1 + r.below(32) {
		x := value("a"+r.text(most), 1+uint64(r.below(5)), r.text(r.below(101)))
		if r.below(5) == 0 {
			x.Seq = api.MaxTime - x.Seq + 1
		}
		if r.below(3) == 0 {
			x.Del, x.Value = true, ""
		}
		l = append(l, x)
	}
	return inOrder(l)
}

// inOrder makes a row of entries.
func inOrder(l []api.Entry) []api.Entry {
	slices.SortStableFunc(l, func(a, b api.Entry) int {
		if aheadByWords(a, b.Key, b.Seq) {
			return -1
		}
		if aheadByWords(b, a.Key, a.Seq) {
			return 1
		}
		return 0
	})
	return slices.CompactFunc(l, func(a, b api.Entry) bool { return a.Key == b.Key && a.Seq == b.Seq })
}

// row tells so many entries, whose keys share much.
func row(n int) []api.Entry {
	var l []api.Entry
	for i := range n {
		l = append(l, value(fmt.Sprintf("key%02d", i/2), uint64(9-i%2), strings.Repeat("v", i)))
		if i%5 == 3 {
			l[i].Del, l[i].Value = true, ""
		}
	}
	return l
}

// samples tells blocks to try: all edges of how many entries there are, of sizes and of numbers, and some by chance.
func samples() [][]api.Entry {
	var all [][]api.Entry
	for n := 1; n <= 32; n++ {
		all = append(all, row(n))
	}
	for _, size := range []int{1, 2, 99, 100} {
		for _, fill := range []string{"\x00", "\x01", "\x7f", "\x80", "\xff", "x"} {
			text := strings.Repeat(fill, size)
			all = append(all, list(value(text, 1, "")), list(value(text, api.MaxTime, text)), list(del(text, 1)), list(value(text, 3, text), del(text, 2), value(text, 1, text)))
		}
	}
	for _, seq := range []uint64{1, 2, 127, 128, 300, 16383, 16384, 1<<32 - 1, 1 << 32, 1<<40 - 1, 1 << 40} {
		all = append(all, list(value("a", seq, "v")), list(del("a", seq), value("b", seq, "")))
	}
	var numbers []api.Entry // of one key
	for i := range uint64(32) {
		numbers = append(numbers, value("k", 1000-i*i, "v"))
	}
	var grown []api.Entry // each key is the beginning of the next one
	for i := range 32 {
		grown = append(grown, value(strings.Repeat("g", 1+3*i), 1, ""))
	}
	all = append(all, numbers, grown)
	for seed := range 60 {
		r := random(seed)
		all = append(all, r.block())
	}
	return all
}

func checkEncode(t *testing.T, l []api.Entry, want string) {
	t.Helper()
	if s, e := Encode(l); s != want || e != api.OK {
		t.Errorf("Encode(%v): %q, %d; want %q", l, s, e, want)
	}
}

func checkUnencoded(t *testing.T, l []api.Entry) {
	t.Helper()
	if s, e := Encode(l); s != "" || e != api.ErrForm {
		t.Errorf("Encode(%v): %q, %d", l, s, e)
	}
}

func checkDecode(t *testing.T, s string, want []api.Entry) {
	t.Helper()
	if l, e := Decode(s); !slices.Equal(l, want) || e != api.OK {
		t.Errorf("Decode(%q): %v, %d; want %v", s, l, e, want)
	}
}

// checkUndecoded holds that bytes are no block's, whatever of them is asked.
func checkUndecoded(t *testing.T, s string) {
	t.Helper()
	if l, e := Decode(s); len(l) != 0 || e != api.ErrForm {
		t.Errorf("Decode(%.300q): %v, %d", s, l, e)
	}
	for _, key := range []string{"", "a", "k", "\xff"} {
		if x, is, e := Seek(s, key, 5); x != (api.Entry{}) || is || e != api.ErrForm {
			t.Errorf("Seek(%.300q, %q, 5): %v, %v, %d", s, key, x, is, e)
		}
	}
}

func checkSeek(t *testing.T, s string, l []api.Entry, key string, seq uint64) {
	t.Helper()
	var want api.Entry
	is := false
	for i := len(l) - 1; i >= 0; i-- {
		if !aheadByWords(l[i], key, seq) {
			want, is = l[i], true
		}
	}
	if x, found, e := Seek(s, key, seq); x != want || found != is || e != api.OK {
		t.Errorf("Seek(%v, %.200q, %d): %v, %v, %d; want %v, %v", l, key, seq, x, found, e, want, is)
	}
}

// checkBytes holds all that is told of some bytes against the words.
func checkBytes(t *testing.T, s string) {
	t.Helper()
	if want, right := decodeByWords(s); right {
		checkDecode(t, s, want)
	} else {
		checkUndecoded(t, s)
	}
}

// long tells a number's long bytes.
func long(n uint64) string { return string(binary.BigEndian.AppendUint64(nil, n)) }

// P9.1: Shared.

func TestShared(t *testing.T) {
	for _, c := range []struct {
		a, b string
		want int
	}{
		{"", "", 0}, {"", "a", 0}, {"a", "a", 1}, {"a", "b", 0}, {"a", "ab", 1}, {"ab", "ac", 1}, {"abc", "abd", 2}, {"abcd", "abxd", 2}, {"xbc", "abc", 0},
		{"\x00", "", 0}, {"\x00", "\x00\x00", 1}, {"é", "è", 1}, {"\xff\xfe", "\xff\xff", 1}, {strings.Repeat("a", 1000), strings.Repeat("a", 999) + "b", 999},
	} {
		if n, m := Shared(c.a, c.b), Shared(c.b, c.a); n != c.want || m != c.want {
			t.Errorf("%.20q, %.20q: %d, %d; want %d", c.a, c.b, n, m, c.want)
		}
	}
	texts := []string{""}
	for i := 0; i < 40; i++ {
		texts = append(texts, texts[i]+"a", texts[i]+"b")
	}
	for _, a := range texts {
		for _, b := range texts {
			if n := Shared(a, b); n != sharedByWords(a, b) {
				t.Errorf("%q, %q: %d", a, b, n)
			}
		}
	}
}

// P9.1: Encode.

func TestExample(t *testing.T) {
	l := list(value("ab", 3, "x"), del("abc", 2))
	s := "\x00\x02ab\x03\x00\x01x" + "\x02\x01c\x02\x01\x00" + long(0) + long(2)
	checkEncode(t, l, s)
	checkDecode(t, s, l)
}

func TestWholeKeysAndPlaces(t *testing.T) {
	l := list(
		value("k", 9, ""), value("k", 8, ""), value("k", 7, ""), value("ka", 300, "v"),
		del("ka", 5), value("kab", 4, ""), value("kb", 3, ""), value("l", 2, ""),
		value("la", 1, "xy"),
	)
	s := "\x00\x01k\x09\x00\x00" + "\x01\x00\x08\x00\x00" + "\x01\x00\x07\x00\x00" + "\x01\x01a\xac\x02\x00\x01v" +
		"\x00\x02ka\x05\x01\x00" + "\x02\x01b\x04\x00\x00" + "\x01\x01b\x03\x00\x00" + "\x00\x01l\x02\x00\x00" +
		"\x00\x02la\x01\x00\x02xy" + long(0) + long(24) + long(49) + long(9)
	checkEncode(t, l, s)
	checkDecode(t, s, l)
	checkEncode(t, l[:8], s[:49]+long(0)+long(24)+long(8))
	checkEncode(t, l[:5], s[:31]+long(0)+long(24)+long(5))
	checkEncode(t, l[:4], s[:24]+long(0)+long(4))
	checkEncode(t, l[4:5], s[24:31]+long(0)+long(1))
}

func TestSizesOfManyBytes(t *testing.T) {
	key, text := strings.Repeat("k", 99), strings.Repeat("v", 100)
	l := list(value(key, api.MaxTime, text), value(key+"a", 1, ""))
	checkEncode(t, l, "\x00\x63"+key+"\x80\x80\x80\x80\x80\x20\x00\x64"+text+"\x63\x01a\x01\x00\x00"+long(0)+long(2))
}

func TestEncodeRefuses(t *testing.T) {
	checkUnencoded(t, nil)
	checkUnencoded(t, list())
	checkUnencoded(t, row(33))
	checkUnencoded(t, row(34))
	checkUnencoded(t, slices.Repeat(row(20), 5000))
	for _, x := range []api.Entry{
		value("", 1, ""), value("", 1, "v"), del("", 1), value(strings.Repeat("m", 101), 1, ""), del(strings.Repeat("m", 101), 1), value(strings.Repeat("m", 1<<20), 1, ""),
		value("m", 1, strings.Repeat("v", 101)), value("m", 1, strings.Repeat("v", 1<<20)), {Key: "m", Seq: 1, Del: true, Value: "v"}, {Key: "m", Seq: 1, Del: true, Value: "\x00"},
		value("m", 0, ""), del("m", 0), value("m", api.MaxTime+1, ""), del("m", api.MaxTime+1), value("m", math.MaxUint64, "v"),
	} {
		checkUnencoded(t, list(x))
		for _, n := range []int{2, 4, 5, 20, 32} {
			for i := range n { // where it stands in a row of others
				l := row(n - 1)
				for j := i; j < len(l); j++ {
					l[j].Key = "z" + l[j].Key
				}
				checkUnencoded(t, slices.Insert(l, i, x))
			}
		}
	}
}

func TestEncodeRefusesNoRows(t *testing.T) {
	for _, l := range [][]api.Entry{
		list(value("b", 1, ""), value("a", 1, "")), list(value("a", 1, ""), value("a", 2, "")), list(value("a", 1, ""), value("a", 1, "")), list(value("a", 1, "x"), del("a", 1)),
		list(value("aa", 9, ""), value("a", 1, "")), list(value("\xff", 1, ""), value("z", 1, "")), list(value("a\x00", 1, ""), value("a", 1, "")),
	} {
		checkUnencoded(t, l)
	}
	for _, n := range []int{2, 3, 5, 31, 32} {
		for i := range n - 1 {
			l := row(n)
			l[i], l[i+1] = l[i+1], l[i]
			checkUnencoded(t, l)
			l[i] = l[i+1]
			checkUnencoded(t, l)
		}
	}
}

// P9.1: Decode.

// wrong tells bytes that say a block, or nearly so, but aren't what Encode makes; each differs from one that is right in one thing.
func wrong() []string {
	tail := long(0) + long(1)
	two := long(0) + long(2)
	first := "\x00\x02ab\x03\x00\x01x"
	four := "\x00\x01a\x09\x00\x00" + "\x01\x00\x08\x00\x00" + "\x01\x00\x07\x00\x00" + "\x01\x00\x06\x00\x00"
	big := "\xff\xff\xff\xff\xff\xff\xff\xff\xff\x01"
	return []string{
		"", "\x00", long(0), long(1), tail, long(0) + long(0), long(0) + tail, two, long(33), first, first + long(1), first + long(0),
		first + long(0) + long(0), first + two, first + long(0) + long(33), first + long(0) + long(1<<32+1), first + long(0) + long(1<<63+1), first + long(0) + tail[8:15], // how many
		first + long(1) + long(1), first + long(8) + long(1), first + long(1<<63) + long(1), first + long(0) + tail, first + "\x00" + tail, first + first + tail, // where
		first + "\x02\x01c\x02\x01\x00" + long(0) + two, first + "\x02\x01c\x02\x01\x00" + long(0) + long(8) + long(2), "\x00" + first + tail, "\x00" + first + long(1) + long(1),
		four + "\x00\x01a\x05\x00\x00" + long(0) + long(5), four + "\x00\x01a\x05\x00\x00" + long(0) + long(20) + long(5), four + "\x00\x01a\x05\x00\x00" + long(21) + long(0) + long(5),
		four + "\x00\x01a\x05\x00\x00" + long(0) + long(22) + long(5), four + "\x00\x01a\x05\x00\x00" + long(0) + long(0) + long(5), four + long(0) + long(21) + long(4),
		first + "\x01\x02bc\x02\x01\x00" + two, first + "\x00\x03abc\x02\x01\x00" + two, four + "\x01\x00\x05\x00\x00" + long(0) + long(21) + long(5), // shared: fewer, and some where none may be
		first + "\x03\x01c\x02\x01\x00" + two, first + "\x7f\x01c\x02\x01\x00" + two, first + big + "\x01c\x02\x01\x00" + two, "\x01\x01b\x03\x00\x01x" + tail, "\x02\x02ab\x03\x00\x01x" + tail, // more than there are
		"\x80\x00\x02ab\x03\x00\x01x" + tail, "\x00\x82\x00ab\x03\x00\x01x" + tail, "\x00\x02ab\x83\x00\x00\x01x" + tail, "\x00\x02ab\x03\x00\x81\x00x" + tail, // more bytes than needed
		"\x00\x02ab\x03\x00\x01x" + tail[1:], "\x00\x02ab\x03\x02\x01x" + tail, "\x00\x02ab\x03\xff\x01x" + tail, "\x00\x02ab\x03\x80\x00\x01x" + tail, "\x00\x02ab\x03\x81\x00\x00" + tail, // the mark
		"\x00\x02ab\x03\x01\x01x" + tail, "\x00\x00\x03\x00\x01x" + tail, "\x00\x02ab\x00\x00\x01x" + tail, "\x00\x02ab\x81\x80\x80\x80\x80\x20\x00\x01x" + tail, "\x00\x02ab" + big + "\x00\x01x" + tail, // what may not be
		"\x00\x65" + strings.Repeat("k", 101) + "\x03\x00\x00" + tail, "\x00\x01k\x03\x00\x65" + strings.Repeat("v", 101) + tail, "\x00\x64" + strings.Repeat("k", 100) + "\x03\x00\x00" + "\x64\x01k\x03\x00\x00" + two,
		"\x00" + big + "ab\x03\x00\x01x" + tail, "\x00\x02ab\x03\x00" + big + "x" + tail, "\x00\x80\x80\x80\x80\x10ab\x03\x00\x01x" + tail, "\x00\x7fab\x03\x00\x01x" + tail, "\x00\x02ab\x03\x00\x7fx" + tail, // more than is left
		"\x00\x01b\x03\x00\x00" + "\x00\x01a\x03\x00\x00" + two, first + "\x02\x00\x03\x00\x00" + two, first + "\x02\x00\x04\x00\x00" + two, first + "\x01\x00\x03\x00\x00" + two, // no row
	}
}

func TestDecodeRefuses(t *testing.T) {
	for _, s := range wrong() {
		if l, right := decodeByWords(s); right {
			t.Errorf("%q is a block's: %v", s, l)
		}
		checkUndecoded(t, s)
	}
	l := row(20)
	for n := range 40 { // as many as there aren't
		s := bytesByWords(l)
		s = s[:len(s)-8] + long(uint64(n))
		if n != 20 {
			checkUndecoded(t, s)
		}
	}
	checkUndecoded(t, bytesByWords(row(33)))
	checkUndecoded(t, bytesByWords(nil))
}

func TestDecodeCutOffOrTooLong(t *testing.T) {
	for _, l := range samples() {
		s := bytesByWords(l)
		for i := range s {
			for _, x := range []string{s[:i], s[i+1:]} {
				if got, e := Decode(x); len(got) != 0 || e != api.ErrForm {
					t.Errorf("Decode(%q): %v, %d", x, got, e)
				}
			}
		}
		for _, more := range []string{"\x00", "\x01", long(0), long(1), s} {
			checkUndecoded(t, s+more)
			checkUndecoded(t, more+s)
			for _, back := range []int{8, 16} {
				checkUndecoded(t, s[:len(s)-back]+more+s[len(s)-back:])
			}
		}
	}
}

func TestDecodeWithOneByteChanged(t *testing.T) {
	for _, l := range [][]api.Entry{row(1), row(3), row(9), list(value("ab", 3, "x"), del("abc", 2)), list(value("a", 300, ""), value("a", 200, "\x00\x00"), value("a\x00", 1, ""))} {
		s := bytesByWords(l)
		for i := range s {
			for c := range 256 {
				b := []byte(s)
				b[i] = byte(c)
				checkBytes(t, string(b))
			}
		}
	}
}

func TestNotRowsAreRefused(t *testing.T) {
	for _, n := range []int{2, 5, 32} {
		for i := range n - 1 {
			l := row(n)
			l[i], l[i+1] = l[i+1], l[i]
			checkUndecoded(t, bytesByWords(l))
			l[i] = l[i+1]
			checkUndecoded(t, bytesByWords(l))
		}
	}
}

func TestDecodeOfManyBytes(t *testing.T) { // also where they say that there are more, or that much is shared
	const size = 1 << 24
	for _, s := range []string{
		strings.Repeat("\x00", size), strings.Repeat("\xff", size), strings.Repeat("\x80", size) + long(32), strings.Repeat("\x01", size) + long(32),
		"\x00\x80\x80\x80\x08" + strings.Repeat("k", size) + "\x01\x00\x00" + strings.Repeat("\x80\x80\x80\x08\x01k\x01\x00\x00", 31) + long(32),
		"\x00\x01k\x01\x00\x80\x80\x80\x08" + strings.Repeat("v", size) + long(0) + long(1),
	} {
		var before, behind runtime.MemStats
		runtime.ReadMemStats(&before)
		checkUndecoded(t, s)
		runtime.ReadMemStats(&behind)
		if n := behind.TotalAlloc - before.TotalAlloc; n > size/2 { // what bytes merely claim isn't laid out
			t.Errorf("%.20q: %d bytes of memory", s, n)
		}
	}
}

// P9.1: Count.

func TestCount(t *testing.T) {
	for s, want := range map[string]int{
		"": 0, "\x01": 0, "\x00\x00\x00\x00\x00\x00\x01": 0, long(0): 0, long(1): 1, long(2): 2, long(31): 31, long(32): 32, long(33): 0, long(255): 0, long(256): 0, long(257): 0,
		long(1<<32 + 1): 0, long(1<<63 + 1): 0, long(1 << 56): 0, long(math.MaxUint64): 0, "x" + long(7): 7, "\x01" + long(0): 0, long(5) + long(6): 6, long(6) + long(33): 0,
		long(5) + "x": 0, long(5)[:7] + "\x09": 9, long(5)[1:]: 0, "\xff\xff\xff" + long(32): 32, long(3) + "\x00": 0,
	} {
		if n := Count(s); n != want {
			t.Errorf("%q: %d; want %d", s, n, want)
		}
	}
	for n := range uint64(100) {
		want := 0
		if n <= 32 {
			want = int(n)
		}
		if got := Count("any" + long(n)); got != want {
			t.Errorf("%d: %d", n, got)
		}
	}
	for _, l := range samples() {
		if n := Count(bytesByWords(l)); n != len(l) {
			t.Errorf("%v: %d", l, n)
		}
	}
}

// P9.2: Seek.

func TestSeek(t *testing.T) {
	l := list(value("a", 9, "x"), value("a", 4, "y"), value("a\x00", 5, ""), value("aa", 3, "v"), value("b", api.MaxTime, "last"), del("b", 7), value("b", 1, "z"), value("\xff", 2, ""))
	s, e := Encode(l)
	if e != api.OK {
		t.Fatal(e)
	}
	for _, c := range []struct {
		key  string
		seq  uint64
		want int
	}{
		{"", 0, 0}, {"", math.MaxUint64, 0}, {"\x00", 1, 0}, {"a", math.MaxUint64, 0}, {"a", 10, 0}, {"a", 9, 0}, {"a", 8, 1}, {"a", 4, 1}, {"a", 3, 2}, {"a", 0, 2},
		{"a\x00", 5, 2}, {"a\x00", 4, 3}, {"a\x00\x00", 9, 3}, {"aa", 3, 3}, {"aa", 2, 4}, {"ab", 1, 4}, {"b", math.MaxUint64, 4}, {"b", api.MaxTime, 4}, {"b", api.MaxTime - 1, 5},
		{"b", 7, 5}, {"b", 6, 6}, {"b", 1, 6}, {"b", 0, 7}, {"c", 9, 7}, {"\x80", 1, 7}, {"\xff", 2, 7}, {"\xff", 3, 7}, {"\xfe\xff", 0, 7},
	} {
		if x, is, e := Seek(s, c.key, c.seq); x != l[c.want] || !is || e != api.OK {
			t.Errorf("Seek(%q, %d): %v, %v, %d; want %v", c.key, c.seq, x, is, e, l[c.want])
		}
	}
	for key, seq := range map[string]uint64{"\xff": 1, "\xff\x00": 9, "\xff\xff": math.MaxUint64, strings.Repeat("\xff", 1000): 5} {
		if x, is, e := Seek(s, key, seq); x != (api.Entry{}) || is || e != api.OK {
			t.Errorf("Seek(%.9q, %d): %v, %v, %d", key, seq, x, is, e)
		}
	}
}

// checkSoughtBeside seeks each entry, and what is beside it.
func checkSoughtBeside(t *testing.T, l []api.Entry) {
	t.Helper()
	s := bytesByWords(l)
	for _, x := range l {
		for _, key := range []string{x.Key, x.Key + "\x00", x.Key[:len(x.Key)-1], x.Key[:len(x.Key)/2] + "b"} {
			for _, seq := range []uint64{x.Seq - 1, x.Seq, x.Seq + 1, 0, math.MaxUint64} {
				checkSeek(t, s, l, key, seq)
			}
		}
	}
	checkSeek(t, s, l, "", 0)
	checkSeek(t, s, l, strings.Repeat("\xff", 101), 0)
}

func TestSeekBeside(t *testing.T) {
	for _, l := range samples() {
		checkSoughtBeside(t, l)
	}
}

// P9.3: what follows.

func TestThereAndBack(t *testing.T) {
	for _, l := range samples() {
		if !isBlockByWords(l) {
			t.Fatalf("%v is no block", l)
		}
		s := bytesByWords(l)
		checkEncode(t, l, s)
		checkDecode(t, s, l)
		if again, right := decodeByWords(s); !right || !slices.Equal(again, l) {
			t.Errorf("%v: %v", l, again)
		}
	}
}

func TestByChance(t *testing.T) {
	for seed := range 1500 {
		r := random(seed)
		l := r.block()
		s, e := Encode(l)
		if s != bytesByWords(l) || e != api.OK {
			t.Fatalf("Encode(%v): %q, %d", l, s, e)
		}
		checkDecode(t, s, l)
		x := l[r.below(len(l))]
		checkSeek(t, s, l, x.Key, x.Seq)
		checkSeek(t, s, l, r.text(6), uint64(r.below(7)))
		for range 10 { // a byte is changed, comes or goes
			i := r.below(len(s))
			checkBytes(t, s[:i]+string([]byte{byte(r.below(256))})+s[i+r.below(2):])
			checkBytes(t, s[:i]+s[i+1:])
		}
	}
}

// The rules R3 and R4.

func TestNothingIsShared(t *testing.T) {
	l := row(20)
	s, _ := Encode(l)
	if !slices.Equal(l, row(20)) {
		t.Errorf("an argument: %v", l)
	}
	clear(l)
	checkDecode(t, s, row(20)) // what was told stays as it was
	got, _ := Decode(s)
	clear(got)
	_ = append(got[:1], value("q", 1, ""))
	checkDecode(t, s, row(20))
	checkEncode(t, row(20), s)
	checkSoughtBeside(t, row(20))
}

func FuzzDecode(f *testing.F) {
	for _, l := range [][]api.Entry{row(1), row(5), row(32)} {
		f.Add(bytesByWords(l), "key01", uint64(9))
	}
	for _, s := range wrong() {
		f.Add(s, "a", uint64(1))
	}
	f.Fuzz(func(t *testing.T, s, key string, seq uint64) {
		checkBytes(t, s)
		if l, right := decodeByWords(s); right {
			checkEncode(t, l, s)
			checkSeek(t, s, l, key, seq)
		}
	})
}

func FuzzEncode(f *testing.F) {
	f.Add("a9xb3-c1z", uint64(7))
	f.Fuzz(func(t *testing.T, s string, seq uint64) {
		var l []api.Entry
		for i := 0; i+3 <= min(len(s), 120); i += 3 {
			l = append(l, api.Entry{Key: s[i : i+1+i%2], Seq: uint64(s[i+1]) ^ seq, Del: s[i+2]%2 == 0, Value: s[i+2 : i+2+int(s[i+2]%2)]})
		}
		for _, x := range [][]api.Entry{l, inOrder(slices.Clone(l))} {
			if isBlockByWords(x) {
				checkEncode(t, x, bytesByWords(x))
			} else {
				checkUnencoded(t, x)
			}
		}
	})
}
