package frame

import (
	"encoding/binary"
	"math"
	"slices"
	"strings"
	"testing"

	"scree/api"
)

// frameAgain tells a text's frame as the words say it, however long the text is.
func frameAgain(text string) string {
	b := binary.AppendUvarint(nil, uint64(len(text)))
	last := byte(165)
	for _, c := range []byte(text) {
		last ^= c
	}
	return string(append(append(b, text...), last))
}

// takeAgain tells what Take should, by the words: it tries each text that stands in s early enough, and holds its frame against s.
func takeAgain(s string) (string, string, api.Errno) {
	if s == "" {
		return "", "", api.ErrNone
	}
	for head := 1; head <= 2; head++ {
		for size := 0; head+size < len(s) && size <= 8000; size++ {
			text := s[head : head+size]
			if rest, is := strings.CutPrefix(s, frameAgain(text)); is {
				return text, rest, api.OK
			}
		}
	}
	return "", "", api.ErrForm
}

// allAgain tells what All should, one frame after the other.
func allAgain(s string) ([]string, int) {
	text, rest, e := takeAgain(s)
	if e != api.OK {
		return nil, 0
	}
	l, n := allAgain(rest)
	return append([]string{text}, l...), len(s) - len(rest) + n
}

// texts tells texts to try: each single byte, all sizes about the edges, of bytes alike and of mixed ones, and texts that look like frames.
func texts() []string {
	list := []string{"", "a", "ab", "\x00\xa5", "\x01a\xc4", frameAgain("in a frame"), "\x80\x80\x80", strings.Repeat("\xa5", 3)}
	for c := range 256 {
		list = append(list, string([]byte{byte(c)}))
	}
	for _, size := range []int{2, 3, 126, 127, 128, 129, 255, 256, 257, 7999, 8000} {
		list = append(list, strings.Repeat("\x00", size), strings.Repeat("\xff", size), strings.Repeat("ab", size)[:size], mixed(size, uint64(size)))
	}
	return list
}

// mixed tells so many bytes of all sorts.
func mixed(size int, n uint64) string {
	b := make([]byte, size)
	for i := range b {
		n = n*6364136223846793005 + 1442695040888963407
		b[i] = byte(n >> 56)
	}
	return string(b)
}

func checkTake(t *testing.T, s, text, rest string, e api.Errno) {
	t.Helper()
	if got, r, is := Take(s); got != text || r != rest || is != e {
		t.Errorf("Take(%.40q), %d bytes: %.40q, %.40q, %d; want %.40q, %.40q, %d", s, len(s), got, r, is, text, rest, e)
	}
}

func checkNoFrame(t *testing.T, s string) {
	t.Helper()
	checkTake(t, s, "", "", api.ErrForm)
}

func checkAll(t *testing.T, s string, l []string, n int) {
	t.Helper()
	if got, m := All(s); !slices.Equal(got, l) || m != n {
		t.Errorf("All(%.40q), %d bytes: %d texts, %d; want %d texts, %d", s, len(s), len(got), m, len(l), n)
	}
}

// P4.1: Make and Take.

func TestFrameTable(t *testing.T) {
	x127, x128, x8000 := strings.Repeat("x", 127), strings.Repeat("x", 128), strings.Repeat("x", 8000)
	table := []struct{ text, frame string }{
		{"", "\x00\xa5"},
		{"\x00", "\x01\x00\xa5"},
		{"a", "\x01a\xc4"},
		{"ab", "\x02ab\xa6"},
		{"ba", "\x02ba\xa6"},
		{"aa", "\x02aa\xa5"},
		{"\xa5", "\x01\xa5\x00"},
		{"\xff", "\x01\xff\x5a"},
		{x127, "\x7f" + x127 + "\xdd"},
		{x128, "\x80\x01" + x128 + "\xa5"},
		{x8000, "\xc0\x3e" + x8000 + "\xa5"},
	}
	for _, x := range table {
		if s, e := Make(x.text); s != x.frame || e != api.OK {
			t.Errorf("Make(%.40q): %.40x, %d; want %.40x", x.text, s, e, x.frame)
		}
		for _, rest := range []string{"", "\x00", "\xff\xff", "rest", x.frame} {
			checkTake(t, x.frame+rest, x.text, rest, api.OK)
		}
	}
}

func TestMakeByItsWords(t *testing.T) {
	for _, text := range texts() {
		if s, e := Make(text); s != frameAgain(text) || e != api.OK {
			t.Errorf("Make(%.40q): %.40x, %d", text, s, e)
		}
		checkTake(t, frameAgain(text), text, "", api.OK)
		checkTake(t, frameAgain(text)+"\x80", text, "\x80", api.OK)
	}
}

func TestMakeEverySize(t *testing.T) {
	long := mixed(8100, 1)
	for size := range len(long) + 1 {
		text := long[:size]
		want, e := frameAgain(text), api.OK
		if size > 8000 {
			want, e = "", api.ErrSize
		}
		if s, is := Make(text); s != want || is != e {
			t.Errorf("Make, %d bytes: %d bytes, %d", size, len(s), is)
		}
	}
}

func TestMakeTooLong(t *testing.T) {
	for _, size := range []int{8001, 8002, 8191, 8192, 16383, 16384, 65536, 65537, 1 << 20} {
		if s, e := Make(strings.Repeat("a", size)); s != "" || e != api.ErrSize {
			t.Errorf("Make, %d bytes: %d bytes, %d", size, len(s), e)
		}
	}
}

func TestTakeNothing(t *testing.T) {
	checkTake(t, "", "", "", api.ErrNone)
}

func TestTakeCutOff(t *testing.T) {
	for _, text := range texts() {
		s := frameAgain(text)
		for cut := 1; cut < len(s); cut++ {
			checkNoFrame(t, s[:cut])
		}
	}
}

func TestTakeTooLong(t *testing.T) {
	for _, size := range []int{8001, 8002, 8192, 16384, 65536, 1 << 20} {
		checkNoFrame(t, frameAgain(strings.Repeat("a", size)))
		checkNoFrame(t, frameAgain(strings.Repeat("\x00", size))+"\xa5")
	}
}

func TestTakeNumbersPastAll(t *testing.T) {
	for _, n := range []uint64{8001, 1<<15 + 1, 1<<16 + 1, 1<<31 - 1, 1 << 31, 1<<32 - 1, 1 << 32, 1<<32 + 1, 1<<63 - 1, 1 << 63, 1<<63 + 1, math.MaxUint64 - 1, math.MaxUint64} {
		head := string(binary.AppendUvarint(nil, n))
		for _, rest := range []string{"", "a", "a\xc4", "\xa5", "\x00\xa5", strings.Repeat("a", 9000)} {
			checkNoFrame(t, head+rest)
		}
	}
}

func TestTakeNoShortBytes(t *testing.T) {
	for _, head := range []string{
		"\x80",
		"\xff\xff",
		"\x80\x00",
		"\x81\x00",
		"\x81\x80\x00",
		strings.Repeat("\x80", 9) + "\x00",
		strings.Repeat("\xff", 9) + "\x02",
		strings.Repeat("\x80", 10) + "\x01",
		strings.Repeat("\xff", 100000),
	} {
		for _, rest := range []string{"", "\xa5", "a\xc4", "\x00\xa5"} {
			checkNoFrame(t, head+rest)
		}
	}
}

func TestTakeWrongLastByte(t *testing.T) {
	for _, text := range []string{"", "a", "ab", strings.Repeat("x", 127), strings.Repeat("x", 128), strings.Repeat("x", 8000)} {
		s := frameAgain(text)
		front, last := s[:len(s)-1], s[len(s)-1]
		for c := range 256 {
			if byte(c) != last {
				checkNoFrame(t, front+string([]byte{byte(c)}))
				checkNoFrame(t, front+string([]byte{byte(c), last}))
			}
		}
	}
}

func TestTakeTurnedBits(t *testing.T) {
	for _, size := range []int{1, 2, 20, 127, 128, 200, 8000} {
		s := frameAgain(mixed(size, 7))
		head := len(s) - size - 1
		for i := head; i < len(s); i += 1 + size/50 {
			for bit := range 8 {
				b := []byte(s)
				b[i] ^= 1 << bit
				checkNoFrame(t, string(b))
			}
		}
	}
}

// shortRows goes through all rows of up to five bytes that matter.
func shortRows(try func(s string)) {
	letters := []byte{0, 1, 2, 3, 128, 129, 164, 165, 166, 255}
	front := []string{""}
	for range 5 {
		var longer []string
		for _, s := range front {
			for _, c := range letters {
				longer = append(longer, s+string([]byte{c}))
			}
		}
		for _, s := range longer {
			try(s)
		}
		front = longer
	}
}

func TestTakeShortRows(t *testing.T) {
	shortRows(func(s string) {
		text, rest, e := takeAgain(s)
		checkTake(t, s, text, rest, e)
	})
}

// P4.1: All and Join.

func TestAllTable(t *testing.T) {
	table := []struct {
		s string
		l []string
		n int
	}{
		{"", nil, 0},
		{"\x01a\xc4\x00\xa5\x02a", []string{"a", ""}, 5},
		{"\x01a\xc4\x00\xa5", []string{"a", ""}, 5},
		{"\x00\xa5", []string{""}, 2},
		{"\x00\xa5\x00\xa5\x00\xa5", []string{"", "", ""}, 6},
		{"\x00\xa5\x00\xa4\x00\xa5", []string{""}, 2},
		{"\x00\xa4\x00\xa5", nil, 0},
		{"\x00\x00\x00\x00", nil, 0},
		{"\x00", nil, 0},
		{"\xa5", nil, 0},
		{"\x80\x00\xa5\x00\xa5", nil, 0},
		{"\x01a\xc4\x80\x00\xa5\x00\xa5", []string{"a"}, 3},
		{"\x02\x00\xa5\x00", []string{"\x00\xa5"}, 4},
		{"\x02\x00\xa5\x00\x01a\xc4", []string{"\x00\xa5", "a"}, 7},
		{"\x02\x00\xa5\x01\x01a\xc4", nil, 0},
	}
	for _, x := range table {
		checkAll(t, x.s, x.l, x.n)
	}
}

func TestAllShortRows(t *testing.T) {
	shortRows(func(s string) {
		l, n := allAgain(s)
		checkAll(t, s, l, n)
	})
}

func TestAllStopsAtTheFirstWrongOne(t *testing.T) {
	l := []string{"one", "", "three", strings.Repeat("4", 200), "five"}
	for bad := range l {
		front, whole := "", ""
		for i, text := range l {
			s := frameAgain(text)
			if i < bad {
				front += s
			}
			if i == bad {
				s = s[:len(s)-1] + string([]byte{s[len(s)-1] ^ 1})
			}
			whole += s
		}
		checkAll(t, whole, l[:bad], len(front))
	}
	checkAll(t, frameAgain("a")+frameAgain(strings.Repeat("a", 8001))+frameAgain("b"), []string{"a"}, 3)
}

func TestAllOfMany(t *testing.T) {
	const many = 300000
	l, n := All(strings.Repeat("\x01a\xc4", many) + "\x01a")
	if len(l) != many || n != 3*many || slices.ContainsFunc(l, func(s string) bool { return s != "a" }) {
		t.Errorf("%d texts, %d", len(l), n)
	}
}

func TestJoinByItsWords(t *testing.T) {
	lists := [][]string{nil, {}, {""}, {"", ""}, {"a"}, {"a", "", "ab"}, {"ab", "", "a"}, {frameAgain("a"), "a"}, texts()}
	for _, l := range lists {
		want := ""
		for _, text := range l {
			want += frameAgain(text)
		}
		if s, e := Join(l); s != want || e != api.OK {
			t.Errorf("Join, %d texts: %d bytes, %d; want %d bytes", len(l), len(s), e, len(want))
		}
	}
}

func TestJoinTooLong(t *testing.T) {
	tooLong := strings.Repeat("a", 8001)
	for at := range 5 {
		l := []string{"a", "", "b", strings.Repeat("c", 8000), "d"}
		l[at] = tooLong
		if s, e := Join(l); s != "" || e != api.ErrSize {
			t.Errorf("the one at %d: %d bytes, %d", at, len(s), e)
		}
	}
	if s, e := Join([]string{tooLong, tooLong}); s != "" || e != api.ErrSize {
		t.Errorf("both: %d bytes, %d", len(s), e)
	}
}

func TestJoinLongerThanAFrame(t *testing.T) {
	l := slices.Repeat([]string{strings.Repeat("x", 8000)}, 50)
	s, e := Join(l)
	if len(s) != 50*8003 || e != api.OK {
		t.Errorf("%d bytes, %d", len(s), e)
	}
	checkAll(t, s, l, len(s))
}

// R3, R4, R5: arguments stay, answers share nothing, the same calls answer the same.

func TestNothingIsShared(t *testing.T) {
	l := texts()
	s, _ := Join(l)
	if !slices.Equal(l, texts()) {
		t.Errorf("Join changed its list")
	}
	first, _ := All(s)
	clear(first)
	checkAll(t, s, l, len(s))
	clear(l)
	if again, e := Join(texts()); again != s || e != api.OK {
		t.Errorf("Join again: %d bytes, %d; want %d bytes", len(again), e, len(s))
	}
}

// P4.2: of a beginning just the whole ones are told.

func TestEveryBeginning(t *testing.T) {
	lists := [][]string{
		{"a", "", "ab"},
		{"", "", "", ""},
		{strings.Repeat("x", 127), strings.Repeat("y", 128), "z"},
		{"\x00\xa5", frameAgain(frameAgain("deep")), "\xa5\xa5\xa5", "\x00\x00"},
		{"a", strings.Repeat("\xa5", 8000), "", strings.Repeat("\x00", 8000), "b"},
		slices.Repeat([]string{"\x00\xa5\x00\xa5\x00\xa5"}, 20),
	}
	for n := range uint64(20) {
		var l []string
		for i := range 2 + n {
			l = append(l, mixed(int(n*(i+1)*37%300), n+i))
		}
		lists = append(lists, l)
	}
	for _, l := range lists {
		s, e := Join(l)
		if e != api.OK {
			t.Fatalf("Join: %d", e)
		}
		whole, right := 0, 0
		for cut := range len(s) + 1 {
			if whole < len(l) && cut == right+len(frameAgain(l[whole])) {
				whole, right = whole+1, cut
			}
			checkAll(t, s[:cut], l[:whole], right)
		}
		if whole != len(l) {
			t.Errorf("%d of %d texts", whole, len(l))
		}
	}
}

func TestWhatIsRightIsJoined(t *testing.T) {
	for n := range uint64(3000) {
		s, e := Join([]string{mixed(int(n%7), n), mixed(int(n%3), n+1)})
		if e != api.OK {
			t.Fatalf("Join: %d", e)
		}
		s += mixed(int(n%11), n+2)
		l, right := All(s)
		if again, e := Join(l); again != s[:right] || e != api.OK {
			t.Errorf("%x: right up to %d, joined %x, %d", s, right, again, e)
		}
		if _, _, e := Take(s[right:]); e == api.OK {
			t.Errorf("%x: a frame behind %d", s, right)
		}
	}
}
