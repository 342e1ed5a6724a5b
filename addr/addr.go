// Package addr is layer 1: rows of 128 bits: see shared/doc/01-addr.md.
package addr

import (
	"cmp"
	"math/bits"
)

// The numbers of bits of an address and of each of its words.
const (
	all  = 128
	half = 64
)

// Addr is an address: two words. Bit 0 is the leftmost one, so that the first
// bits of an address are those that a prefix of it has.
type Addr [2]uint64

// And is bit by bit.
func And(a, b Addr) Addr { return Addr{a[0] & b[0], a[1] & b[1]} }

// Or is bit by bit.
func Or(a, b Addr) Addr { return Addr{a[0] | b[0], a[1] | b[1]} }

// Xor is bit by bit.
func Xor(a, b Addr) Addr { return Addr{a[0] ^ b[0], a[1] ^ b[1]} }

// Not is bit by bit.
func Not(a Addr) Addr { return Addr{^a[0], ^a[1]} }

// Bit tells whether one is set; a bit that there is not is not set.
func Bit(a Addr, k int) bool {
	if !inside(k) {
		return false
	}
	i, one := place(k)
	return a[i]&one != 0
}

// With has a bit so; a bit that there is not changes nothing.
func With(a Addr, k int, b bool) Addr {
	if !inside(k) {
		return a
	}
	i, one := place(k)
	if b {
		a[i] |= one
	} else {
		a[i] &^= one
	}
	return a
}

// Mask has the first bits set: none below 0, all above 128.
func Mask(n int) Addr {
	n = min(max(n, 0), all)
	first := min(n, half)
	return Addr{top(first), top(n - first)}
}

// Cut has the first bits alone.
func Cut(a Addr, n int) Addr { return And(a, Mask(n)) }

// Common is how many bits from the left on are the same.
func Common(a, b Addr) int {
	d := Xor(a, b)
	if d[0] != 0 {
		return bits.LeadingZeros64(d[0])
	}
	return half + bits.LeadingZeros64(d[1])
}

// Ones is how many bits are set.
func Ones(a Addr) int { return bits.OnesCount64(a[0]) + bits.OnesCount64(a[1]) }

// Compare tells which is the greater one, as numbers.
func Compare(a, b Addr) int {
	if a[0] != b[0] {
		return cmp.Compare(a[0], b[0])
	}
	return cmp.Compare(a[1], b[1])
}

// Next is one more; the greatest one wraps round to 0.
func Next(a Addr) Addr {
	low, carry := bits.Add64(a[1], 1, 0)
	high, _ := bits.Add64(a[0], 0, carry)
	return Addr{high, low}
}

// inside keeps place from numbers for which it has no word, and a shift from
// a negative count, at which Go panics.
func inside(k int) bool { return 0 <= k && k < all }

// place is the word of a bit, and that word with the bit alone.
func place(k int) (int, uint64) { return k / half, 1 << (half - 1 - k%half) }

// top has the first n bits of a word set. A shift by the whole word leaves 0
// in Go, so that n of 64 needs no case of its own.
func top(n int) uint64 { return ^(^uint64(0) >> n) }
