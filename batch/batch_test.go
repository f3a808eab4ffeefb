package batch

import (
	"encoding/binary"
	"math"
	"slices"
	"strings"
	"testing"

	"scree/api"
)

// a batch to try.
type sample struct {
	seq uint64
	l   []api.Op
}

func put(key, value string) api.Op { return api.Op{Key: key, Value: value} }

func del(key string) api.Op { return api.Op{Del: true, Key: key} }

// mixed tells so many bytes of all sorts.
func mixed(size int, n uint64) string {
	b := make([]byte, size)
	for i := range b {
		n = n*6364136223846793005 + 1442695040888963407
		b[i] = byte(n >> 56)
	}
	return string(b)
}

// mixedOps tells so many operations of all sorts that may be.
func mixedOps(count int, n uint64) []api.Op {
	var l []api.Op
	for i := range uint64(count) {
		k := (n + i) * 2654435761 >> 7
		key := mixed(1+int(k%100), k)
		if k%3 == 0 {
			l = append(l, del(key))
		} else {
			l = append(l, put(key, mixed(int(k/100%101), k+1)))
		}
	}
	return l
}

// samples tells batches to try: all edges of numbers, of how many operations there are, and of sizes; and some of all sorts.
func samples() []sample {
	var list []sample
	for _, seq := range []uint64{1, 2, 127, 128, 300, 16383, 16384, 1<<32 - 1, 1 << 32, 1<<40 - 16, 1<<40 - 15} {
		for _, count := range []int{1, 2, 3, 15, 16} {
			list = append(list, sample{seq, slices.Repeat([]api.Op{put("a", "")}, count)})
			list = append(list, sample{seq, slices.Repeat([]api.Op{del("a")}, count)})
			list = append(list, sample{seq, mixedOps(count, seq)})
		}
	}
	for _, size := range []int{1, 2, 99, 100} {
		for _, fill := range []string{"\x00", "\x01", "\x7f", "\x80", "\xff", "x"} {
			text := strings.Repeat(fill, size)
			list = append(list, sample{1 << 40, []api.Op{put(text, "")}}, sample{1 << 40, []api.Op{del(text)}})
			list = append(list, sample{1, []api.Op{put("k", text)}}, sample{1, []api.Op{put(text, text), del(text), put("k", text)}})
		}
	}
	for n := range uint64(40) {
		list = append(list, sample{1 + n*n*n, mixedOps(1+int(n%16), n)})
	}
	return list
}

// bytesAgain tells the bytes as the words say them, whether it is a batch or not.
func bytesAgain(seq uint64, l []api.Op) string {
	b := binary.AppendUvarint(nil, seq)
	b = binary.AppendUvarint(b, uint64(len(l)))
	for _, op := range l {
		texts := []string{op.Key, op.Value}
		if op.Del {
			b = append(b, 1)
			texts = texts[:1]
		} else {
			b = append(b, 0)
		}
		for _, text := range texts {
			b = binary.AppendUvarint(b, uint64(len(text)))
			b = append(b, text...)
		}
	}
	return string(b)
}

// batchAgain tells by the words whether it is a batch, every number of which is at most MaxTime.
func batchAgain(seq uint64, l []api.Op) bool {
	if len(l) == 0 || len(l) > 16 {
		return false
	}
	for i, op := range l {
		if n := seq + uint64(i); n == 0 || n > 1<<40 {
			return false
		}
		if op.Key == "" || len(op.Key) > 100 || len(op.Value) > 100 || op.Del && op.Value != "" {
			return false
		}
	}
	return true
}

// decodeAgain tells what Decode should: it reads by the library's way, that takes more than may be, and holds the words' bytes against s.
func decodeAgain(s string) (uint64, []api.Op, api.Errno) {
	b := []byte(s)
	good := true
	number := func() uint64 {
		n, size := binary.Uvarint(b)
		if size <= 0 {
			good, b = false, nil
			return 0
		}
		b = b[size:]
		return n
	}
	text := func() string {
		n := number()
		if n > uint64(len(b)) {
			good = false
			return ""
		}
		out := string(b[:n])
		b = b[n:]
		return out
	}
	seq := number()
	var l []api.Op
	for range number() {
		op := api.Op{Del: number() == 1, Key: text()}
		if !op.Del {
			op.Value = text()
		}
		l = append(l, op)
		if !good {
			break
		}
	}
	if !good || !batchAgain(seq, l) || bytesAgain(seq, l) != s {
		return 0, nil, api.ErrForm
	}
	return seq, l, api.OK
}

func checkEncode(t *testing.T, seq uint64, l []api.Op, s string, e api.Errno) {
	t.Helper()
	if got, is := Encode(seq, l); got != s || is != e {
		t.Errorf("Encode(%d, %d operations): %.60x, %d; want %.60x, %d", seq, len(l), got, is, s, e)
	}
}

func checkDecode(t *testing.T, s string, seq uint64, l []api.Op, e api.Errno) {
	t.Helper()
	if n, got, is := Decode(s); n != seq || !slices.Equal(got, l) || is != e {
		t.Errorf("Decode(%.60x), %d bytes: %d, %d operations, %d; want %d, %d operations, %d", s, len(s), n, len(got), is, seq, len(l), e)
	}
}

func checkNoBatch(t *testing.T, s string) {
	t.Helper()
	checkDecode(t, s, 0, nil, api.ErrForm)
}

// P5.1: May.

func TestMayTable(t *testing.T) {
	x100, x101 := strings.Repeat("x", 100), strings.Repeat("x", 101)
	for i, x := range []struct {
		l    []api.Op
		want bool
	}{
		{nil, false},
		{[]api.Op{}, false},
		{[]api.Op{{}}, false},
		{[]api.Op{put("a", "")}, true},
		{[]api.Op{put("a", "x")}, true},
		{[]api.Op{put("\x00", "\x00")}, true},
		{[]api.Op{put("", "x")}, false},
		{[]api.Op{put(x100, "")}, true},
		{[]api.Op{put(x101, "")}, false},
		{[]api.Op{put("a", x100)}, true},
		{[]api.Op{put("a", x101)}, false},
		{[]api.Op{put(x100, x100)}, true},
		{[]api.Op{del("a")}, true},
		{[]api.Op{del("")}, false},
		{[]api.Op{del(x100)}, true},
		{[]api.Op{del(x101)}, false},
		{[]api.Op{{Del: true, Key: "a", Value: "x"}}, false},
		{[]api.Op{{Del: true, Key: "a", Value: "\x00"}}, false},
		{[]api.Op{{Del: true, Key: "a", Value: x101}}, false},
		{[]api.Op{put("a", "x"), del("a"), put("a", "y")}, true},
		{[]api.Op{put(strings.Repeat("x", 1<<20), "")}, false},
		{[]api.Op{put("a", strings.Repeat("x", 1<<20))}, false},
	} {
		if got := May(x.l); got != x.want {
			t.Errorf("case %d: %v", i, got)
		}
	}
}

func TestMayEveryCount(t *testing.T) {
	for count := range 40 {
		l := slices.Repeat([]api.Op{put("a", "x")}, count)
		if got, want := May(l), 1 <= count && count <= 16; got != want {
			t.Errorf("%d operations: %v", count, got)
		}
	}
	if May(make([]api.Op, 100000)) || May(slices.Repeat([]api.Op{del("a")}, 256+16)) {
		t.Error("many operations may be")
	}
}

// wrongOps tells operations that may not be.
func wrongOps() []api.Op {
	x101 := strings.Repeat("x", 101)
	return []api.Op{{}, put("", "x"), put(x101, ""), put("a", x101), del(""), del(x101), {Del: true, Key: "a", Value: "x"}}
}

func TestMayOneWrong(t *testing.T) {
	for count := 1; count <= 16; count++ {
		for at := range count {
			for i, op := range wrongOps() {
				l := mixedOps(count, uint64(count))
				if !May(l) {
					t.Fatalf("%d operations may not be", count)
				}
				l[at] = op
				if May(l) {
					t.Errorf("the wrong one %d at %d of %d", i, at, count)
				}
				checkEncode(t, 1, l, "", api.ErrForm)
			}
		}
	}
}

// P5.1: Encode.

func TestBytesTable(t *testing.T) {
	x100 := strings.Repeat("x", 100)
	for _, x := range []struct {
		seq uint64
		l   []api.Op
		s   string
	}{
		{7, []api.Op{put("a", "xy"), del("b")}, "\x07\x02\x00\x01a\x02xy\x01\x01b"},
		{7, []api.Op{del("b"), put("a", "xy")}, "\x07\x02\x01\x01b\x00\x01a\x02xy"},
		{1, []api.Op{put("a", "")}, "\x01\x01\x00\x01a\x00"},
		{1, []api.Op{del("a")}, "\x01\x01\x01\x01a"},
		{127, []api.Op{del("\x00\x00")}, "\x7f\x01\x01\x02\x00\x00"},
		{128, []api.Op{put("\x00", "\xff")}, "\x80\x01\x01\x00\x01\x00\x01\xff"},
		{300, []api.Op{put("a", "")}, "\xac\x02\x01\x00\x01a\x00"},
		{1<<40 - 1, []api.Op{del("a"), del("a")}, "\xff\xff\xff\xff\xff\x1f\x02\x01\x01a\x01\x01a"},
		{1 << 40, []api.Op{put(x100, x100)}, "\x80\x80\x80\x80\x80\x20\x01\x00\x64" + x100 + "\x64" + x100},
		{3, slices.Repeat([]api.Op{del("k")}, 16), "\x03\x10" + strings.Repeat("\x01\x01k", 16)},
	} {
		checkEncode(t, x.seq, x.l, x.s, api.OK)
		checkDecode(t, x.s, x.seq, x.l, api.OK)
	}
}

func TestEncodeByItsWords(t *testing.T) {
	for _, x := range samples() {
		checkEncode(t, x.seq, x.l, bytesAgain(x.seq, x.l), api.OK)
	}
}

func TestEncodeNumbers(t *testing.T) {
	far := []uint64{0, 1<<40 + 1, 1<<40 + 2, 1 << 41, 1<<63 - 1, 1 << 63, math.MaxUint64 - 16, math.MaxUint64 - 15, math.MaxUint64 - 1, math.MaxUint64}
	for count := 1; count <= 16; count++ {
		l := mixedOps(count, 5)
		for _, seq := range far {
			checkEncode(t, seq, l, "", api.ErrRange)
		}
		last := uint64(1<<40 - count + 1)
		for seq := last - 3; seq <= last; seq++ {
			checkEncode(t, seq, l, bytesAgain(seq, l), api.OK)
		}
		for seq := last + 1; seq <= last+20; seq++ {
			checkEncode(t, seq, l, "", api.ErrRange)
		}
		checkEncode(t, 1, l, bytesAgain(1, l), api.OK)
	}
}

func TestEncodeFormAheadOfRange(t *testing.T) {
	tooMany := slices.Repeat([]api.Op{put("a", "x")}, 17)
	for _, seq := range []uint64{0, 1, 1 << 40, 1<<40 + 1, math.MaxUint64} {
		checkEncode(t, seq, nil, "", api.ErrForm)
		checkEncode(t, seq, []api.Op{}, "", api.ErrForm)
		checkEncode(t, seq, tooMany, "", api.ErrForm)
		for _, op := range wrongOps() {
			checkEncode(t, seq, []api.Op{op}, "", api.ErrForm)
			checkEncode(t, seq, []api.Op{put("a", "x"), op}, "", api.ErrForm)
		}
	}
}

// P5.1: Decode.

func TestDecodeTable(t *testing.T) {
	for _, s := range []string{
		"",
		"\x01",
		"\x01\x00",                              // no operation
		"\x01\x00\x00\x01a\x00",                 // likewise, and one behind it
		"\x01\x11",                              // too many
		"\x00\x01\x01\x01a",                     // the number 0
		"\x81\x00\x01\x01\x01a",                 // more bytes than the number needs
		"\x01\x81\x00\x01\x01a",                 // .. than how many there are needs
		"\x01\x01\x81\x00\x01a",                 // .. than the mark needs
		"\x01\x01\x01\x81\x00a",                 // .. than the key's size needs
		"\x01\x01\x00\x01a\x81\x00x",            // .. than the value's size needs
		"\x01\x01\x00\x01a\x80\x00",             // likewise
		"\x01\x01\x02\x01a",                     // no mark
		"\x01\x01\x02\x01a\x00",                 // likewise
		"\x01\x01\xff\x01a\x00",                 // likewise
		"\x01\x01\x80\x01\x01a",                 // likewise
		"\x01\x01\x00\x00\x00",                  // no key
		"\x01\x01\x01\x00",                      // likewise
		"\x01\x01\x01\x05a",                     // a key cut off
		"\x01\x01\x00\x01a",                     // no value
		"\x01\x01\x00\x01a\x02x",                // a value cut off
		"\x01\x01\x01\x01a\x00",                 // a value where there is none
		"\x01\x01\x01\x01a\x01x",                // likewise
		"\x01\x01\x00\x01a\x00\x00",             // a byte too many
		"\x01\x01\x01\x01a\x01\x01a",            // an operation too many
		"\x01\x02\x01\x01a",                     // one too few
		"\x80\x80\x80\x80\x80\x20\x02",          // nothing behind how many there are
		"\x81\x80\x80\x80\x80\x20\x01\x01\x01a", // a number above MaxTime
	} {
		checkNoBatch(t, s)
	}
}

func TestDecodeByItsWords(t *testing.T) {
	for _, x := range samples() {
		s := bytesAgain(x.seq, x.l)
		checkDecode(t, s, x.seq, x.l, api.OK)
		for _, rest := range []string{"\x00", "\x01", "\xff", "\x01\x01a", "\x00\x01a\x00", s} {
			checkNoBatch(t, s+rest)
		}
	}
}

func TestDecodeNumbers(t *testing.T) {
	for count := 1; count <= 16; count++ {
		l := mixedOps(count, 9)
		last := uint64(1<<40 - count + 1)
		for seq := last - 2; seq <= last; seq++ {
			checkDecode(t, bytesAgain(seq, l), seq, l, api.OK)
		}
		for seq := last + 1; seq <= last+20; seq++ {
			checkNoBatch(t, bytesAgain(seq, l))
		}
		for _, seq := range []uint64{0, 1 << 41, 1 << 63, math.MaxUint64 - 15, math.MaxUint64} {
			checkNoBatch(t, bytesAgain(seq, l))
		}
	}
}

func TestDecodeWrongOps(t *testing.T) {
	for count := 1; count <= 16; count++ {
		for at := range count {
			for _, op := range wrongOps() {
				if op.Del && op.Value != "" {
					continue // it has the same bytes as without a value
				}
				l := mixedOps(count, 3)
				l[at] = op
				checkNoBatch(t, bytesAgain(1, l))
			}
		}
	}
	for count := 17; count <= 300; count++ {
		checkNoBatch(t, bytesAgain(1, slices.Repeat([]api.Op{del("a")}, count)))
	}
}

func TestDecodeEverySize(t *testing.T) {
	long := mixed(300, 1)
	for size := range len(long) + 1 {
		for _, l := range [][]api.Op{{put(long[:size], "")}, {del(long[:size])}, {put("a", long[:size])}, {del("a"), put("b", long[:size]), del("c")}} {
			seq, want, e := decodeAgain(bytesAgain(1, l))
			checkDecode(t, bytesAgain(1, l), seq, want, e)
			if fits := size <= 100 && (size > 0 || l[0].Key != ""); fits != (e == api.OK) {
				t.Errorf("%d bytes: %d", size, e)
			}
		}
	}
}

func TestDecodeNumbersPastAll(t *testing.T) {
	for _, n := range []uint64{101, 1<<15 + 1, 1<<31 - 1, 1 << 31, 1<<32 + 1, 1<<63 - 1, 1 << 63, 1<<63 + 1, math.MaxUint64 - 1, math.MaxUint64} {
		large := string(binary.AppendUvarint(nil, n))
		for _, rest := range []string{"", "a", "a\x00", "\x01\x01a", strings.Repeat("\x01\x01a", 100)} {
			checkNoBatch(t, "\x01"+large+rest)
			checkNoBatch(t, "\x01\x01\x00"+large+rest)
			checkNoBatch(t, "\x01\x01\x01"+large+rest)
			checkNoBatch(t, "\x01\x01\x00\x01a"+large+rest)
		}
	}
	for _, front := range []string{"", "\x01", "\x01\x01", "\x01\x01\x00", "\x01\x01\x01", "\x01\x01\x00\x01a"} {
		checkNoBatch(t, front+strings.Repeat("\x80", 9)+"\x02\x01a")
		checkNoBatch(t, front+strings.Repeat("\xff", 100000))
		checkNoBatch(t, front+strings.Repeat("\x00", 100000))
		checkNoBatch(t, front+strings.Repeat("\x01", 100000))
	}
}

func TestDecodeTurnedBytes(t *testing.T) {
	for _, x := range []sample{
		{7, []api.Op{put("a", "xy"), del("b")}},
		{300, []api.Op{del("\x01\x01"), put("\x00", ""), put("\x01", "\x00\x01")}},
		{1 << 39, slices.Repeat([]api.Op{put("\x00", "\x01")}, 15)},
		{1, slices.Repeat([]api.Op{del("\x01")}, 16)},
		{5, []api.Op{put(strings.Repeat("\x01", 100), strings.Repeat("\x00", 100))}},
	} {
		s := bytesAgain(x.seq, x.l)
		for i := range len(s) {
			for c := range 256 {
				turned := s[:i] + string([]byte{byte(c)}) + s[i+1:]
				seq, l, e := decodeAgain(turned)
				checkDecode(t, turned, seq, l, e)
			}
		}
	}
}

func TestDecodeShortRows(t *testing.T) {
	letters := []byte{0, 1, 2, 3, 128, 129, 255}
	right := 0
	front := []string{""}
	for range 7 {
		var longer []string
		for _, s := range front {
			for _, c := range letters {
				longer = append(longer, s+string([]byte{c}))
			}
		}
		for _, s := range longer {
			seq, l, e := decodeAgain(s)
			checkDecode(t, s, seq, l, e)
			if e == api.OK {
				right++
			}
		}
		front = longer
	}
	if right < 1000 {
		t.Errorf("only %d rows are batches", right)
	}
}

// P5.2: Entries and Size.

func TestEntriesTable(t *testing.T) {
	l := []api.Op{put("a", "xy"), del("a"), put("b", ""), put("a", "z")}
	want := []api.Entry{{Key: "a", Seq: 9, Value: "xy"}, {Key: "a", Seq: 10, Del: true}, {Key: "b", Seq: 11}, {Key: "a", Seq: 12, Value: "z"}}
	if got := Entries(9, l); !slices.Equal(got, want) {
		t.Errorf("%v; want %v", got, want)
	}
	for _, none := range [][]api.Op{nil, {}} {
		if got := Entries(9, none); len(got) != 0 {
			t.Errorf("of none: %v", got)
		}
	}
}

// entriesAgain tells what Entries should, whether it is a batch or not.
func entriesAgain(seq uint64, l []api.Op) []api.Entry {
	out := make([]api.Entry, len(l))
	for i := range l {
		out[i].Key, out[i].Value, out[i].Del = l[i].Key, l[i].Value, l[i].Del
		out[i].Seq = seq
		seq++
	}
	return out
}

func TestEntriesByItsWords(t *testing.T) {
	list := samples()
	for _, seq := range []uint64{0, 1 << 40, 1<<40 + 1, math.MaxUint64 - 2, math.MaxUint64} {
		list = append(list, sample{seq, wrongOps()}, sample{seq, mixedOps(1000, seq)})
	}
	for _, x := range list {
		if got := Entries(x.seq, x.l); !slices.Equal(got, entriesAgain(x.seq, x.l)) {
			t.Errorf("Entries(%d, %d operations): %d entries", x.seq, len(x.l), len(got))
		}
	}
}

func TestSizeTable(t *testing.T) {
	for i, x := range []struct {
		l    []api.Op
		want int
	}{
		{nil, 0},
		{[]api.Op{}, 0},
		{[]api.Op{{}}, 0},
		{[]api.Op{put("a", "")}, 1},
		{[]api.Op{put("ab", "xyz")}, 5},
		{[]api.Op{put("\x00", "\x00")}, 2},
		{[]api.Op{del("abc")}, 3},
		{[]api.Op{put("ab", "xyz"), del("abc"), put("a", "")}, 9},
		{[]api.Op{put("a", "x"), put("a", "x")}, 4},
		{[]api.Op{{Del: true, Key: "ab", Value: "xyz"}}, 5},
		{[]api.Op{put("", "xyz")}, 3},
		{slices.Repeat([]api.Op{put("ab", "x")}, 1000), 3000},
		{[]api.Op{put(strings.Repeat("a", 1<<20), strings.Repeat("b", 1<<20))}, 1 << 21},
		{[]api.Op{put("ä", "€")}, 5},
	} {
		if got := Size(x.l); got != x.want {
			t.Errorf("case %d: %d; want %d", i, got, x.want)
		}
	}
}

// P5.3: what follows.

func TestThereAndBack(t *testing.T) {
	for _, x := range samples() {
		s, e := Encode(x.seq, x.l)
		if e != api.OK {
			t.Fatalf("Encode: %d", e)
		}
		checkDecode(t, s, x.seq, x.l, api.OK)
	}
}

// low tells the same bytes, each with its lowest bit alone: what is made of them is often a batch.
func low(s string) string {
	b := []byte(s)
	for i := range b {
		b[i] &= 1
	}
	return string(b)
}

func TestBackAndThere(t *testing.T) {
	right := 0
	for n := range uint64(200000) {
		s := string([]byte{1 + byte(n%3), 1 + byte(n/3%2)}) + low(mixed(3+int(n%8), n))
		seq, l, e := Decode(s)
		if e != api.OK {
			continue
		}
		right++
		checkEncode(t, seq, l, s, api.OK)
	}
	if right < 1000 {
		t.Errorf("only %d are batches", right)
	}
}

func TestEveryBeginning(t *testing.T) {
	for _, x := range samples() {
		s, e := Encode(x.seq, x.l)
		if e != api.OK {
			t.Fatalf("Encode: %d", e)
		}
		for cut := range len(s) {
			checkNoBatch(t, s[:cut])
		}
	}
}

// smallBatches tells all batches of up to two operations with few keys and values, and few numbers.
func smallBatches() []sample {
	var ops []api.Op
	for _, key := range []string{"\x00", "\x01", "\x00\x00", "\x01\x01", "\x01\x01\x00"} {
		ops = append(ops, del(key))
		for _, value := range []string{"", "\x00", "\x01", "\x01\x01"} {
			ops = append(ops, put(key, value))
		}
	}
	var list []sample
	for _, seq := range []uint64{1, 2, 128, 129, 256, 257} {
		for _, a := range ops {
			list = append(list, sample{seq, []api.Op{a}})
			for _, b := range ops {
				list = append(list, sample{seq, []api.Op{a, b}})
			}
		}
	}
	return list
}

func TestNoBeginningOfOthers(t *testing.T) {
	all := map[string]sample{}
	for _, x := range append(smallBatches(), samples()...) {
		s, e := Encode(x.seq, x.l)
		if e != api.OK {
			t.Fatalf("Encode: %d", e)
		}
		if y, twice := all[s]; twice && (x.seq != y.seq || !slices.Equal(x.l, y.l)) {
			t.Errorf("%v and %v: %x", x, y, s)
		}
		all[s] = x
	}
	for s, x := range all {
		for cut := range len(s) {
			if y, is := all[s[:cut]]; is {
				t.Errorf("%v begins with %v: %x", x, y, s)
			}
		}
	}
}

// R3, R4, R5, R6: arguments stay, answers share nothing, the same calls answer the same.

func TestNothingIsShared(t *testing.T) {
	for _, x := range samples() {
		before := slices.Clone(x.l)
		s, _ := Encode(x.seq, x.l)
		entries := Entries(x.seq, x.l)
		size := Size(x.l)
		if !May(x.l) || !slices.Equal(x.l, before) {
			t.Error("the list was changed")
		}
		clear(x.l)
		if !slices.Equal(entries, entriesAgain(x.seq, before)) {
			t.Error("entries hang on the list")
		}
		_, first, _ := Decode(s)
		clear(first)
		clear(entries)
		checkDecode(t, s, x.seq, before, api.OK)
		checkEncode(t, x.seq, before, s, api.OK)
		if !slices.Equal(Entries(x.seq, before), entriesAgain(x.seq, before)) || Size(before) != size {
			t.Error("the second answer is another one")
		}
	}
}
