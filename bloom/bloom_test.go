package bloom

import (
	"fmt"
	"hash/fnv"
	"math"
	"math/big"
	"math/bits"
	"slices"
	"strings"
	"testing"

	"scree/api"
)

// What follows, up to fullByWords, is the chapter's words, by numbers without an end and without an eye to what it costs.

// without64 tells what of a number doesn't go beyond 64 bits.
func without64(x *big.Int) *big.Int { return new(big.Int).Mod(x, new(big.Int).Lsh(big.NewInt(1), 64)) }

func mixByWords(key string) *big.Int {
	mix, _ := new(big.Int).SetString("14695981039346656037", 10)
	for _, c := range []byte(key) {
		mix = without64(mix.Mul(mix.Xor(mix, big.NewInt(int64(c))), big.NewInt(1099511628211)))
	}
	return mix
}

// turnedByWords turns a number's 64 bits round by 17 to the right, one after the other: the last one becomes the first.
func turnedByWords(x *big.Int) *big.Int {
	out := new(big.Int)
	for i := range 64 {
		out.SetBit(out, (i+64-17)%64, x.Bit(i))
	}
	return out
}

func bitsByWords(key string, n int) []int {
	var l []int
	for i := range 4 {
		if n >= 1 {
			mix := mixByWords(key)
			sum := without64(new(big.Int).Add(mix, new(big.Int).Mul(big.NewInt(int64(i)), turnedByWords(mix))))
			l = append(l, int(sum.Mod(sum, big.NewInt(int64(n))).Int64()))
		}
	}
	return l
}

// valueByWords is the value of the bit b in its byte.
func valueByWords(b int) byte { return []byte{1, 2, 4, 8, 16, 32, 64, 128}[b%8] }

func filterByWords(keys []string) string {
	set := map[int]bool{}
	for _, k := range keys {
		for _, b := range bitsByWords(k, 8*(len(keys)+1)) {
			set[b] = true
		}
	}
	bytes := make([]byte, len(keys)+1)
	for b := range set {
		bytes[b/8] += valueByWords(b)
	}
	return string(bytes)
}

func mayByWords(filter, key string) bool {
	for _, b := range bitsByWords(key, 8*len(filter)) {
		if filter[b/8]&valueByWords(b) == 0 {
			return false
		}
	}
	return true
}

func fullByWords(filter string) int {
	n := 0
	for b := range 8 * len(filter) {
		if filter[b/8]&valueByWords(b) != 0 {
			n++
		}
	}
	return n
}

// random draws numbers that are the same each time.
type random uint64

func (r *random) below(n int) int {
	*r = *r*6364136223846793005 + 1442695040888963407
	return int(uint64(*r)>>33) % n
}

// text draws a text of up to so many bytes, of all bytes or of few.
func (r *random) text(most int) string {
	b := make([]byte, r.below(most+1))
	few := r.below(2) == 0
	for i := range b {
		b[i] = byte(r.below(256))
		if few {
			b[i] = "ab\x00\xff"[r.below(4)]
		}
	}
	return string(b)
}

// keys draws so many keys, some of them doubles.
func (r *random) keys(n int) []string {
	var l []string
	for range n {
		k := r.text(9)
		if len(l) > 0 && r.below(9) == 0 {
			k = l[r.below(len(l))]
		}
		l = append(l, k)
	}
	return l
}

// shuffle changes the order by chance.
func (r *random) shuffle(l []string) {
	for i := range l {
		j := r.below(i + 1)
		l[i], l[j] = l[j], l[i]
	}
}

// many tells keys that differ.
func many(n int) []string {
	var l []string
	for i := range n {
		l = append(l, fmt.Sprintf("k%d", i))
	}
	return l
}

// samples are keys of all kinds: without bytes, with those that are no text, alike, and long.
func samples() []string {
	l := []string{"", "a", "b", "aa", "ab", "ba", "\x00", "\x00\x00", "\x7f", "\x80", "\xff", "\xff\xff", "a\x00", "ä", "\xc3", "ÿ€\U0001f600", "foobar", strings.Repeat("k", api.MaxText), strings.Repeat("\xff", 1000)}
	for seed := range random(60) {
		l = append(l, seed.text(30))
	}
	return l
}

// sizes are numbers that bits are asked among.
func sizes() []int {
	l := []int{255, 256, 1000, 8008, 65521, 1 << 20, 1<<31 - 1, 1 << 31, 1<<32 - 1, 1 << 32, 1<<32 + 1, 1 << 40, 1 << 62, 1<<62 + 1, math.MaxInt64 - 1, math.MaxInt64}
	for n := range 100 {
		l = append(l, n+1)
	}
	return l
}

func checkMake(t *testing.T, keys []string, want string) {
	t.Helper()
	ahead := slices.Clone(keys)
	if f, e := Make(keys); f != want || e != api.OK {
		t.Errorf("Make(%.200q): %.200q, %d; want %.200q", keys, f, e, want)
	}
	if !slices.Equal(keys, ahead) {
		t.Errorf("Make changed %.200q to %.200q", ahead, keys)
	}
}

func checkTooMany(t *testing.T, keys []string) {
	t.Helper()
	if f, e := Make(keys); f != "" || e != api.ErrMany {
		t.Errorf("Make of %d keys: %.99q, %d", len(keys), f, e)
	}
}

func checkMay(t *testing.T, filter, key string, want bool) {
	t.Helper()
	if got := May(filter, key); got != want {
		t.Errorf("May(%.99q, %.99q): %v", filter, key, got)
	}
}

func checkFull(t *testing.T, filter string, want int) {
	t.Helper()
	if got := Full(filter); got != want {
		t.Errorf("Full(%.99q): %d; want %d", filter, got, want)
	}
}

func TestNumbersThatAreGiven(t *testing.T) {
	if Probes != 4 || MaxKeys != 1000 {
		t.Errorf("%d, %d", Probes, MaxKeys)
	}
}

// P10.1: Mix.

func TestMix(t *testing.T) {
	for key, want := range map[string]uint64{
		"": 14695981039346656037, "a": 0xaf63dc4c8601ec8c, "b": 0xaf63df4c8601f1a5, "\x00": 0xaf63bd4c8601b7df, "\xff": 0xaf64724c8602eb6e,
		"\xc3\xa4": 0x0ac21207b7181582, "\x00\x00\x00": 0xd94d12186c0f2fb7, "foobar": 0x85944171f73967e8,
	} {
		if got := Mix(key); got != want {
			t.Errorf("Mix(%q): %x; want %x", key, got, want)
		}
	}
}

func TestMixByWords(t *testing.T) {
	keys := samples()
	for c := range 256 {
		keys = append(keys, string([]byte{byte(c)}), string([]byte{'a', byte(c), 'b'}))
	}
	for _, key := range keys {
		if got, want := Mix(key), mixByWords(key).Uint64(); got != want {
			t.Errorf("Mix(%q): %x; want %x", key, got, want)
		}
	}
}

func TestMixOfManyBytes(t *testing.T) {
	key := strings.Repeat("many bytes\x00\xff", 1<<20)
	h := fnv.New64a() // the words' mix is one that the library has, too
	h.Write([]byte(key))
	if got, want := Mix(key), h.Sum64(); got != want {
		t.Errorf("%x; want %x", got, want)
	}
}

// P10.1: Bits.

func TestBits(t *testing.T) {
	for _, c := range []struct {
		key  string
		n    int
		want []int
	}{
		{"", 2, []int{1, 0, 1, 0}}, {"", 8, []int{5, 6, 7, 0}}, {"", 24, []int{5, 6, 7, 16}}, {"", 1000, []int{37, 998, 959, 304}}, {"a", 1, []int{0, 0, 0, 0}}, {"a", 8, []int{4, 4, 4, 4}},
		{"a", 24, []int{4, 20, 12, 4}}, {"a", 1000, []int{996, 388, 780, 172}}, {"b", 16, []int{5, 5, 5, 5}}, {"\xff", 2, []int{0, 1, 0, 1}}, {"foobar", 1000, []int{968, 916, 480, 428}},
	} {
		if got := Bits(c.key, c.n); !slices.Equal(got, c.want) {
			t.Errorf("Bits(%q, %d): %v; want %v", c.key, c.n, got, c.want)
		}
	}
}

func TestBitsByWords(t *testing.T) {
	for _, key := range samples() {
		for _, n := range sizes() {
			if got, want := Bits(key, n), bitsByWords(key, n); !slices.Equal(got, want) {
				t.Errorf("Bits(%q, %d): %v; want %v", key, n, got, want)
			}
		}
	}
}

func TestBitsAmongNone(t *testing.T) {
	for _, key := range samples() {
		for _, n := range []int{0, -1, -2, -8, -1000, math.MinInt32, math.MinInt64 + 1, math.MinInt64} {
			if got := Bits(key, n); len(got) != 0 {
				t.Errorf("Bits(%q, %d): %v", key, n, got)
			}
		}
	}
}

// P10.1: Make.

func TestMake(t *testing.T) {
	for _, c := range []struct {
		keys []string
		want string
	}{
		{nil, "\x00"}, {[]string{}, "\x00"}, {[]string{""}, "\xe0\x01"}, {[]string{"a"}, "\x00\x10"}, {[]string{"b"}, " \x00"}, {[]string{"\x00"}, "\x00\x80"}, {[]string{"\xff"}, "\x03\xc0"},
		{[]string{"a", "b"}, "000"}, {[]string{"\x00", ""}, "\xe0\x80\x81"}, {[]string{"a", "b", "c"}, " \x10\x04\x00"},
		{[]string{"a", "a"}, "\x10\x10\x10"}, {[]string{"b", "b"}, "   "}, {[]string{"a", "b", "b"}, " \x10\x00\x00"}, // doubles count
	} {
		if by := filterByWords(c.keys); by != c.want {
			t.Errorf("%q: %q by the words; want %q", c.keys, by, c.want)
		}
		checkMake(t, c.keys, c.want)
	}
}

func TestMakeByWords(t *testing.T) {
	r := random(1)
	for _, n := range []int{1, 2, 3, 7, 8, 9, 31, 32, 33, 127, 128, 255, 256, 500, 999, 1000} {
		for _, keys := range [][]string{many(n), make([]string, n), r.keys(n), r.keys(n), slices.Repeat([]string{"one key"}, n)} {
			want := filterByWords(keys)
			if len(want) != n+1 {
				t.Fatalf("%d bytes of %d keys", len(want), n)
			}
			checkMake(t, keys, want)
			checkFull(t, want, fullByWords(want))
		}
	}
	checkMake(t, samples(), filterByWords(samples()))
	for seed := range random(400) {
		keys := seed.keys(seed.below(30))
		checkMake(t, keys, filterByWords(keys))
	}
}

func TestMakeOfTooMany(t *testing.T) {
	checkTooMany(t, many(1001))
	checkTooMany(t, make([]string, 1001))
	checkTooMany(t, many(1002))
	checkTooMany(t, slices.Repeat([]string{"one key"}, 1001)) // doubles count
	checkTooMany(t, make([]string, 1<<20))
	keys := many(1001)
	checkMake(t, keys[:1000], filterByWords(keys[:1000])) // what stands behind a list's end is none of its keys
}

func TestMakeOfLongKeys(t *testing.T) {
	keys := []string{strings.Repeat("k", 1<<20), strings.Repeat("k", 1<<20) + "l", ""}
	f, e := Make(keys)
	if len(f) != 4 || e != api.OK {
		t.Fatalf("%q, %d", f, e)
	}
	for _, k := range keys {
		checkMay(t, f, k, true)
	}
	checkMay(t, f, "q", mayByWords(f, "q"))
}

// P10.1: May.

func TestMay(t *testing.T) {
	for _, key := range samples() {
		for _, c := range []struct {
			filter string
			want   bool
		}{{"", true}, {"\x00", false}, {"\xff", true}, {"\x00\x00\x00", false}, {"\xff\xff\xff", true}, {strings.Repeat("\x00", 1001), false}, {strings.Repeat("\xff", 5000), true}} {
			checkMay(t, c.filter, key, c.want)
		}
	}
	for _, key := range []string{"a", "b", "i", "j"} { // "i" and "j" aren't among the keys "a" and "b", but may be
		checkMay(t, "000", key, true)
	}
	for _, key := range []string{"c", "d", "e", "f", "g", "h", ""} {
		checkMay(t, "000", key, false)
	}
}

func TestMayHangsOnEachBit(t *testing.T) {
	for _, key := range samples() {
		for _, n := range []int{1, 2, 3, 5, 8, 33, 1001, 4000} {
			least, most := make([]byte, n), []byte(strings.Repeat("\xff", n))
			for _, b := range bitsByWords(key, 8*n) {
				least[b/8] |= valueByWords(b)
				most[b/8] &= ^valueByWords(b)
			}
			checkMay(t, string(least), key, true)
			checkMay(t, string(most), key, false)
			for _, b := range bitsByWords(key, 8*n) {
				one := valueByWords(b)
				least[b/8] ^= one
				checkMay(t, string(least), key, false) // all others are set, this one isn't
				least[b/8] ^= one
				checkMay(t, strings.Repeat("\xff", b/8)+string([]byte{^one})+strings.Repeat("\xff", n-b/8-1), key, false)
			}
		}
	}
}

func TestMayByWords(t *testing.T) {
	for seed := range random(3000) {
		b := make([]byte, 1+seed.below(40))
		for i := range b {
			b[i] = byte(seed.below(256) | seed.below(256))
		}
		key := seed.text(9)
		checkMay(t, string(b), key, mayByWords(string(b), key))
	}
}

// P10.1: Full.

func TestFull(t *testing.T) {
	for c := range 256 {
		one := string([]byte{byte(c)})
		checkFull(t, one, bits.OnesCount(uint(c)))
		checkFull(t, "\x00"+one+"\xff", bits.OnesCount(uint(c))+8)
		checkFull(t, strings.Repeat(one, 1001), 1001*bits.OnesCount(uint(c)))
	}
	for filter, want := range map[string]int{"": 0, "\x00": 0, "\xff": 8, "\x00\x00\x00": 0, "000": 6, "\xe0\x80\x81": 6, "ä": 7, "\x01\x02\x04\x08\x10\x20\x40\x80": 8} {
		checkFull(t, filter, want)
	}
}

func TestFiltersOfManyBytes(t *testing.T) { // with more bits than 31 bits of a number tell
	filter := strings.Repeat("\xff", 1<<28)
	checkFull(t, filter, 1<<31)
	checkMay(t, filter, "a", true)
	filter = ""
	checkFull(t, strings.Repeat("\x00", 1<<28), 0)
	checkMay(t, strings.Repeat("\x00", 1<<28), "a", false)
}

// P10.2: what follows.

func TestKeysMayBe(t *testing.T) {
	r := random(5)
	for n := range 1001 {
		keys := many(n)
		if n%2 == 0 {
			keys = r.keys(n)
		}
		f, e := Make(keys)
		if len(f) != n+1 || e != api.OK {
			t.Fatalf("%d keys: %d bytes, %d", n, len(f), e)
		}
		for _, k := range keys {
			checkMay(t, f, k, true)
		}
	}
}

func TestOthersMostlyMayNot(t *testing.T) {
	for _, n := range []int{100, 500, 1000} {
		f, _ := Make(many(n))
		others := 0
		for i := range 5000 {
			if May(f, fmt.Sprintf("other %d", i)) {
				others++
			}
		}
		if others > 5000/4 {
			t.Errorf("%d keys: %d of 5000 others", n, others)
		}
	}
}

// orders tells all orders of some keys.
func orders(keys []string) [][]string {
	if len(keys) == 0 {
		return [][]string{nil}
	}
	var l [][]string
	for i := range keys {
		for _, rest := range orders(slices.Delete(slices.Clone(keys), i, i+1)) {
			l = append(l, append([]string{keys[i]}, rest...))
		}
	}
	return l
}

func TestOrderChangesNothing(t *testing.T) {
	for _, keys := range [][]string{{"a", "b"}, {"a", "b", "b"}, {"", "a", "\xff", "ab"}, {"c", "b", "a", "b", "c"}} {
		want := filterByWords(keys)
		for _, l := range orders(keys) {
			checkMake(t, l, want)
		}
	}
	for seed := range random(100) {
		keys := seed.keys(seed.below(1001))
		want, _ := Make(keys)
		seed.shuffle(keys)
		checkMake(t, keys, want)
	}
}

func TestDoublesChangeHowManyThereAre(t *testing.T) {
	for _, l := range [][]string{{"a", "b", "b"}, {"a", "a", "b"}, {"b", "a", "b"}, {"a", "b", "a"}} {
		checkMake(t, l, " \x10\x00\x00")
	}
	for seed := range random(200) {
		keys := seed.keys(1 + seed.below(50))
		x, y := slices.Clone(keys), slices.Clone(keys)
		for range 1 + seed.below(50) { // which ones are doubled doesn't tell
			x, y = append(x, x[seed.below(len(x))]), append(y, y[seed.below(len(y))])
		}
		set := map[int]bool{}
		for _, k := range keys {
			for _, b := range bitsByWords(k, 8*(len(x)+1)) {
				set[b] = true
			}
		}
		want := filterByWords(x)
		checkMake(t, x, want)
		checkMake(t, y, want)
		checkFull(t, want, len(set))
	}
}

// The rules R3, R4 and R5.

func TestNothingIsKept(t *testing.T) {
	want := filterByWords([]string{"a"})
	for _, keys := range [][]string{many(1000), make([]string, 1001), nil, many(2)} {
		Make(keys)
		checkMake(t, []string{"a"}, want)
		checkMake(t, nil, "\x00")
	}
	keys := []string{"a"}
	f, _ := Make(keys)
	keys[0] = "b"
	if f != want {
		t.Errorf("%q", f)
	}
}

func TestNothingIsShared(t *testing.T) {
	l := Bits("a", 1000)
	clear(l)
	_ = append(l[:1], 7)
	if again := Bits("a", 1000); !slices.Equal(again, []int{996, 388, 780, 172}) {
		t.Errorf("%v", again)
	}
	x, y := Bits("a", 24), Bits("b", 24)
	x[0] = 99
	if !slices.Equal(y, bitsByWords("b", 24)) {
		t.Errorf("%v", y)
	}
}

func FuzzFilter(f *testing.F) {
	f.Add("a b c", "a", 24)
	f.Add("", "", 0)
	f.Add("\xff\x00 \x80", "\xff", -1)
	f.Fuzz(func(t *testing.T, s, key string, n int) {
		if got, want := Mix(key), mixByWords(key).Uint64(); got != want {
			t.Errorf("Mix(%q): %x; want %x", key, got, want)
		}
		if got, want := Bits(key, n), bitsByWords(key, n); !slices.Equal(got, want) {
			t.Errorf("Bits(%q, %d): %v; want %v", key, n, got, want)
		}
		checkMay(t, s, key, mayByWords(s, key))
		checkFull(t, s, fullByWords(s))
		keys := strings.Split(s, " ")
		if len(keys) > 1000 {
			checkTooMany(t, keys)
			return
		}
		filter := filterByWords(keys)
		checkMake(t, keys, filter)
		for _, k := range keys {
			checkMay(t, filter, k, true)
		}
		checkMay(t, filter, key, mayByWords(filter, key))
	})
}
