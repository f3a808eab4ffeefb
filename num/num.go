// Package num is layer 1: see shared/doc/01-num.md.
package num

import "math/bits"

const (
	shortBits = 7    // bits of a number that a short byte holds
	more      = 0x80 // set in each short byte but the last one
	maxShort  = 10   // short bytes of the largest numbers
	maxTenth  = 1    // nine short bytes hold 63 bits: the tenth one has room for one
	longBytes = 8
)

// Short tells a number's short bytes.
func Short(n uint64) string {
	size := shortSize(n)
	b := make([]byte, size)
	for i := range size {
		b[i] = byte(n>>(shortBits*i)) | more
	}
	b[size-1] &^= more
	return string(b)
}

// shortSize tells how many short bytes a number has; 0 needs one as 1 does.
func shortSize(n uint64) int {
	return (bits.Len64(n|1) + shortBits - 1) / shortBits
}

// Take reads the short bytes that s begins with, and tells what follows them.
func Take(s string) (uint64, string, bool) {
	var n uint64
	for i := range min(len(s), maxShort) {
		c := s[i]
		n |= uint64(c&^more) << (shortBits * i)
		if c&more == 0 {
			if !mayEnd(i, c) {
				return 0, "", false
			}
			return n, s[i+1:], true
		}
	}
	return 0, "", false
}

// mayEnd tells whether short bytes may end with c as the byte at i: a last byte without bits isn't needed, and one with too many makes no 64 bits.
func mayEnd(i int, c byte) bool {
	if i > 0 && c == 0 {
		return false
	}
	return i < maxShort-1 || c <= maxTenth
}

// Long tells a number's long bytes.
func Long(n uint64) string {
	var b [longBytes]byte
	for i := range longBytes {
		b[i] = byte(n >> (8 * (longBytes - 1 - i)))
	}
	return string(b[:])
}

// Unlong reads long bytes.
func Unlong(s string) (uint64, bool) {
	if len(s) != longBytes {
		return 0, false
	}
	var n uint64
	for i := range longBytes {
		n = n<<8 | uint64(s[i])
	}
	return n, true
}

// Fall tells a number's falling bytes.
func Fall(n uint64) string { return Long(^n) }

// Unfall reads falling bytes.
func Unfall(s string) (uint64, bool) {
	n, ok := Unlong(s)
	if !ok {
		return 0, false
	}
	return ^n, true
}

// Fold tells a signed number as an unsigned one.
func Fold(n int64) uint64 {
	twice := uint64(n) << 1
	if n < 0 {
		return ^twice // -2n - 1, without a step that overflows at the least number
	}
	return twice
}

// Unfold tells it back.
func Unfold(n uint64) int64 {
	half := int64(n >> 1)
	if n&1 == 1 {
		return ^half
	}
	return half
}

// Fits tells whether a number has no bit set from the bit bits on.
func Fits(n uint64, bits int) bool {
	return n>>max(bits, 0) == 0 // a shift by 64 or more leaves 0: everything fits
}
