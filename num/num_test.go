package num

import (
	"encoding/binary"
	"math"
	"math/big"
	"slices"
	"strings"
	"testing"
)

// numbers tells numbers to try, in order: the small ones, those about each power of two, the largest ones, and some from all over the range.
func numbers() []uint64 {
	var list []uint64
	for n := range uint64(600) {
		list = append(list, n, math.MaxUint64-n)
	}
	for bit := range 64 {
		for d := range uint64(5) {
			list = append(list, uint64(1)<<bit-2+d)
		}
	}
	n := uint64(1)
	for range 2000 {
		n = n*6364136223846793005 + 1442695040888963407
		list = append(list, n, n>>(n%64))
	}
	slices.Sort(list)
	return slices.Compact(list)
}

func checkTake(t *testing.T, s string, n uint64, rest string, ok bool) {
	t.Helper()
	if m, r, is := Take(s); m != n || r != rest || is != ok {
		t.Errorf("Take(%q): %d, %q, %v; want %d, %q, %v", s, m, r, is, n, rest, ok)
	}
}

// P1.1: short bytes.

func TestShortTable(t *testing.T) {
	table := []struct {
		n uint64
		s string
	}{
		{0, "\x00"},
		{1, "\x01"},
		{127, "\x7f"},
		{128, "\x80\x01"},
		{300, "\xac\x02"},
		{16383, "\xff\x7f"},
		{16384, "\x80\x80\x01"},
		{1 << 40, "\x80\x80\x80\x80\x80\x20"},
		{1<<56 - 1, "\xff\xff\xff\xff\xff\xff\xff\x7f"},
		{1 << 56, "\x80\x80\x80\x80\x80\x80\x80\x80\x01"},
		{1<<63 - 1, "\xff\xff\xff\xff\xff\xff\xff\xff\x7f"},
		{1 << 63, "\x80\x80\x80\x80\x80\x80\x80\x80\x80\x01"},
		{math.MaxUint64, "\xff\xff\xff\xff\xff\xff\xff\xff\xff\x01"},
	}
	for _, x := range table {
		if s := Short(x.n); s != x.s {
			t.Errorf("Short(%d): %x; want %x", x.n, s, x.s)
		}
		for _, rest := range []string{"", "\x00", "\xff\xff", "ab", x.s} {
			checkTake(t, x.s+rest, x.n, rest, true)
		}
	}
}

func TestShortAgainstLibrary(t *testing.T) {
	for _, n := range numbers() {
		if s, want := Short(n), string(binary.AppendUvarint(nil, n)); s != want {
			t.Errorf("Short(%d): %x; want %x", n, s, want)
		}
	}
}

func TestTakeCutOff(t *testing.T) {
	for _, n := range numbers() {
		s := Short(n)
		for i := range len(s) {
			checkTake(t, s[:i], 0, "", false)
		}
	}
}

func TestTakeMoreThanNeeded(t *testing.T) {
	for _, s := range []string{
		"\x80\x00",
		"\x81\x00",
		"\xff\x00",
		"\x80\x80\x00",
		"\xac\x82\x00",
		"\xff\xff\xff\xff\x00",
		strings.Repeat("\x80", 8) + "\x00",
		strings.Repeat("\x80", 9) + "\x00",
		strings.Repeat("\xff", 9) + "\x00",
	} {
		checkTake(t, s, 0, "", false)
		checkTake(t, s+"\x01ab", 0, "", false)
	}
}

func TestTakeNo64Bits(t *testing.T) {
	for last := range 256 {
		for _, front := range []string{strings.Repeat("\x80", 9), strings.Repeat("\xff", 9)} {
			if last == 1 {
				continue
			}
			s := front + string([]byte{byte(last)})
			checkTake(t, s, 0, "", false)
			checkTake(t, s+"\x01", 0, "", false)
		}
	}
	for _, size := range []int{10, 11, 12, 64, 100000} {
		checkTake(t, strings.Repeat("\x80", size), 0, "", false)
		checkTake(t, strings.Repeat("\xff", size)+"\x01", 0, "", false)
	}
}

// takeAgain tells what Take should, by the library's way to read, that takes also more bytes than needed.
func takeAgain(s string) (uint64, string, bool) {
	n, size := binary.Uvarint([]byte(s))
	if size <= 0 || size != len(binary.AppendUvarint(nil, n)) {
		return 0, "", false
	}
	return n, s[size:], true
}

func TestTakeEveryThreeBytes(t *testing.T) {
	edges := []byte{0, 1, 2, 63, 64, 126, 127, 128, 129, 254, 255}
	for a := range 256 {
		for b := range 256 {
			for _, c := range edges {
				s := string([]byte{byte(a), byte(b), c})
				n, rest, ok := takeAgain(s)
				checkTake(t, s, n, rest, ok)
			}
		}
	}
}

func TestTakeLongFronts(t *testing.T) {
	for size := range 13 {
		for _, fill := range []string{"\x80", "\x81", "\xc0", "\xff"} {
			for last := range 256 {
				s := strings.Repeat(fill, size) + string([]byte{byte(last)}) + "\x05"
				n, rest, ok := takeAgain(s)
				checkTake(t, s, n, rest, ok)
			}
		}
	}
}

func TestTakeOneByOne(t *testing.T) {
	var b strings.Builder
	for _, n := range numbers() {
		b.WriteString(Short(n))
	}
	s := b.String()
	for _, n := range numbers() {
		m, rest, ok := Take(s)
		if m != n || !ok {
			t.Fatalf("%d: %d, %v", n, m, ok)
		}
		s = rest
	}
	checkTake(t, s, 0, "", false)
}

// P1.1: long and falling bytes.

func TestLongTable(t *testing.T) {
	table := []struct {
		n          uint64
		long, fall string
	}{
		{0, "\x00\x00\x00\x00\x00\x00\x00\x00", "\xff\xff\xff\xff\xff\xff\xff\xff"},
		{1, "\x00\x00\x00\x00\x00\x00\x00\x01", "\xff\xff\xff\xff\xff\xff\xff\xfe"},
		{300, "\x00\x00\x00\x00\x00\x00\x01\x2c", "\xff\xff\xff\xff\xff\xff\xfe\xd3"},
		{1 << 40, "\x00\x00\x01\x00\x00\x00\x00\x00", "\xff\xff\xfe\xff\xff\xff\xff\xff"},
		{1 << 63, "\x80\x00\x00\x00\x00\x00\x00\x00", "\x7f\xff\xff\xff\xff\xff\xff\xff"},
		{0x0123456789abcdef, "\x01\x23\x45\x67\x89\xab\xcd\xef", "\xfe\xdc\xba\x98\x76\x54\x32\x10"},
		{math.MaxUint64, "\xff\xff\xff\xff\xff\xff\xff\xff", "\x00\x00\x00\x00\x00\x00\x00\x00"},
	}
	for _, x := range table {
		if s := Long(x.n); s != x.long {
			t.Errorf("Long(%d): %x; want %x", x.n, s, x.long)
		}
		if s := Fall(x.n); s != x.fall {
			t.Errorf("Fall(%d): %x; want %x", x.n, s, x.fall)
		}
		if n, ok := Unlong(x.long); n != x.n || !ok {
			t.Errorf("Unlong(%x): %d, %v; want %d", x.long, n, ok, x.n)
		}
		if n, ok := Unfall(x.fall); n != x.n || !ok {
			t.Errorf("Unfall(%x): %d, %v; want %d", x.fall, n, ok, x.n)
		}
	}
}

func TestLongAgainstLibrary(t *testing.T) {
	for _, n := range numbers() {
		if s, want := Long(n), string(binary.BigEndian.AppendUint64(nil, n)); s != want {
			t.Errorf("Long(%d): %x; want %x", n, s, want)
		}
		if s, want := Fall(n), string(binary.BigEndian.AppendUint64(nil, math.MaxUint64-n)); s != want {
			t.Errorf("Fall(%d): %x; want %x", n, s, want)
		}
	}
}

func TestUnlongNotEight(t *testing.T) {
	for _, fill := range []string{"\x00", "\x01", "\x7f", "\xff", "a"} {
		for _, size := range []int{0, 1, 2, 3, 4, 5, 6, 7, 9, 10, 15, 16, 17, 264} {
			s := strings.Repeat(fill, size)
			if n, ok := Unlong(s); n != 0 || ok {
				t.Errorf("Unlong(%d times %q): %d, %v", size, fill, n, ok)
			}
			if n, ok := Unfall(s); n != 0 || ok {
				t.Errorf("Unfall(%d times %q): %d, %v", size, fill, n, ok)
			}
		}
	}
}

// P1.2: signed numbers, and how many bits.

func TestFoldTable(t *testing.T) {
	for n, want := range map[int64]uint64{
		0: 0, -1: 1, 1: 2, -2: 3, 2: 4, 150: 300, -151: 301,
		1<<62 - 1: 1<<63 - 2, 1 << 62: 1 << 63, -1 << 62: 1<<63 - 1,
		math.MaxInt64:     math.MaxUint64 - 1,
		math.MinInt64:     math.MaxUint64,
		math.MinInt64 + 1: math.MaxUint64 - 2,
	} {
		if m := Fold(n); m != want {
			t.Errorf("Fold(%d): %d; want %d", n, m, want)
		}
		if m := Unfold(want); m != n {
			t.Errorf("Unfold(%d): %d; want %d", want, m, n)
		}
	}
}

// foldAgain tells the fold as the words say it, with numbers that don't overflow.
func foldAgain(n int64) uint64 {
	twice := new(big.Int).Mul(big.NewInt(n), big.NewInt(2))
	if n >= 0 {
		return twice.Uint64()
	}
	return twice.Neg(twice).Sub(twice, big.NewInt(1)).Uint64()
}

func TestFoldByItsWords(t *testing.T) {
	for _, n := range numbers() {
		if m, want := Fold(int64(n)), foldAgain(int64(n)); m != want {
			t.Errorf("Fold(%d): %d; want %d", int64(n), m, want)
		}
	}
}

func TestFitsTable(t *testing.T) {
	for _, x := range []struct {
		n    uint64
		bits int
		want bool
	}{
		{0, math.MinInt, true},
		{0, -1, true},
		{0, 0, true},
		{0, 1, true},
		{1, math.MinInt, false},
		{1, -64, false},
		{1, -1, false},
		{1, 0, false},
		{1, 1, true},
		{2, 1, false},
		{255, 7, false},
		{255, 8, true},
		{256, 8, false},
		{256, 9, true},
		{1<<63 - 1, 62, false},
		{1<<63 - 1, 63, true},
		{1 << 63, 63, false},
		{1 << 63, 64, true},
		{math.MaxUint64, math.MinInt, false},
		{math.MaxUint64, 0, false},
		{math.MaxUint64, 63, false},
		{math.MaxUint64, 64, true},
		{math.MaxUint64, 65, true},
		{math.MaxUint64, 128, true},
		{math.MaxUint64, 1 << 32, true},
		{math.MaxUint64, math.MaxInt, true},
	} {
		if got := Fits(x.n, x.bits); got != x.want {
			t.Errorf("Fits(%d, %d): %v", x.n, x.bits, got)
		}
	}
}

func TestFitsByItsWords(t *testing.T) {
	for _, n := range numbers() {
		for bits := -3; bits < 70; bits++ {
			want := true
			for bit := max(bits, 0); bit < 64; bit++ {
				if n&(1<<bit) != 0 {
					want = false
				}
			}
			if got := Fits(n, bits); got != want {
				t.Errorf("Fits(%d, %d): %v", n, bits, got)
			}
		}
	}
}

// P1.3: what follows.

func TestThereAndBack(t *testing.T) {
	for _, n := range numbers() {
		checkTake(t, Short(n), n, "", true)
		checkTake(t, Short(n)+"\x80rest", n, "\x80rest", true)
		if m, ok := Unlong(Long(n)); m != n || !ok {
			t.Errorf("long %d: %d, %v", n, m, ok)
		}
		if m, ok := Unfall(Fall(n)); m != n || !ok {
			t.Errorf("falling %d: %d, %v", n, m, ok)
		}
		if m := Fold(Unfold(n)); m != n {
			t.Errorf("unfolded %d: %d", n, m)
		}
		if m := Unfold(Fold(int64(n))); m != int64(n) {
			t.Errorf("folded %d: %d", int64(n), m)
		}
	}
}

func TestBackAndThere(t *testing.T) {
	for _, x := range numbers() {
		s := string(binary.LittleEndian.AppendUint64(nil, x))
		if n, ok := Unlong(s); !ok || Long(n) != s {
			t.Errorf("long %x: %d, %v", s, n, ok)
		}
		if n, ok := Unfall(s); !ok || Fall(n) != s {
			t.Errorf("falling %x: %d, %v", s, n, ok)
		}
		if n, rest, ok := Take(s); ok && Short(n)+rest != s {
			t.Errorf("short %x: %d, %x", s, n, rest)
		}
	}
}

func TestOrder(t *testing.T) {
	list := numbers()
	for i := range len(list) - 1 {
		a, b := list[i], list[i+1]
		if Long(a) >= Long(b) {
			t.Errorf("long %d, %d: %x, %x", a, b, Long(a), Long(b))
		}
		if Fall(a) <= Fall(b) {
			t.Errorf("falling %d, %d: %x, %x", a, b, Fall(a), Fall(b))
		}
	}
}

func TestNoBeginningOfOthers(t *testing.T) {
	all := map[string]uint64{}
	for _, n := range numbers() {
		s := Short(n)
		if m, twice := all[s]; twice {
			t.Errorf("%d and %d: %x", n, m, s)
		}
		all[s] = n
	}
	for s, n := range all {
		for i := range len(s) {
			if m, is := all[s[:i]]; is {
				t.Errorf("%d begins with %d: %x", n, m, s)
			}
		}
	}
}
