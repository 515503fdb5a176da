// Package nat is layer 1: see shared/doc/01-nat.md.
package nat

import (
	"math/bits"

	"trellis/api"
)

// wordBits is how many binary digits a word holds.
const wordBits = 64

// Least: a without zero words at its high end.
func Least(a []uint64) []uint64 {
	n := width(a)
	least := make([]uint64, n)
	copy(least, a[:n])
	return least
}

// Cmp: -1, 0 or 1.
func Cmp(a, b []uint64) int {
	m, n := width(a), width(b)
	if m != n {
		return order(uint64(m), uint64(n))
	}
	for i := range n {
		// The highest word that differs decides, so the words are taken from the top.
		if c := order(a[n-1-i], b[n-1-i]); c != 0 {
			return c
		}
	}
	return 0
}

// Add: a + b.
func Add(a, b []uint64) []uint64 {
	m, n := width(a), width(b)
	if m < n {
		a, m, b, n = b, n, a, m
	}
	sum := make([]uint64, m, m+1)
	copy(sum, a[:m])
	if carry := addTo(sum, b[:n]); carry != 0 {
		sum = append(sum, carry)
	}
	return sum
}

// Sub: a - b.
func Sub(a, b []uint64) ([]uint64, api.Errno) {
	if Cmp(a, b) < 0 {
		return nil, api.ErrArg
	}
	diff := Least(a)
	takeFrom(diff, b[:width(b)])
	return diff[:width(diff)], api.OK
}

// Shl: a times 2^n.
func Shl(a []uint64, n int) ([]uint64, api.Errno) {
	if n < 0 {
		return nil, api.ErrArg
	}
	if n > api.MaxShift {
		return nil, api.ErrLarge
	}
	m := width(a)
	if m == 0 {
		return nil, api.OK
	}
	words, places := n/wordBits, n%wordBits
	up := make([]uint64, words+m+1)
	var spill uint64
	for i := range m {
		up[words+i] = a[i]<<places | spill
		// At places 0 this shifts by a whole word, which leaves 0: nothing spills.
		spill = a[i] >> (wordBits - places)
	}
	up[words+m] = spill
	return up[:width(up)], api.OK
}

// Shr: a divided by 2^n, rounded down.
func Shr(a []uint64, n int) ([]uint64, api.Errno) {
	if n < 0 {
		return nil, api.ErrArg
	}
	words, places := n/wordBits, n%wordBits
	m := width(a)
	if words >= m {
		return nil, api.OK
	}
	down := make([]uint64, m-words)
	copy(down, a[words:m])
	last := len(down) - 1
	for i := range last {
		// At places 0 the upper word is shifted by a whole word, which leaves 0: nothing comes down.
		down[i] = down[i]>>places | down[i+1]<<(wordBits-places)
	}
	down[last] >>= places
	return down[:width(down)], api.OK
}

// Low: the rest of a modulo 2^n.
func Low(a []uint64, n int) ([]uint64, api.Errno) {
	if n < 0 {
		return nil, api.ErrArg
	}
	words, places := n/wordBits, n%wordBits
	if words >= width(a) {
		return Least(a), api.OK
	}
	low := make([]uint64, words+1)
	copy(low, a[:words+1])
	low[words] &= 1<<places - 1
	return low[:width(low)], api.OK
}

// BitLen: the number of binary digits of a; 0 of 0.
func BitLen(a []uint64) int {
	n := width(a)
	if n == 0 {
		return 0
	}
	return (n-1)*wordBits + bits.Len64(a[n-1])
}

// Twos: how often 2 divides a; -1 for 0.
func Twos(a []uint64) int {
	for i := range len(a) {
		if a[i] != 0 {
			return i*wordBits + bits.TrailingZeros64(a[i])
		}
	}
	return -1
}

// Bit: the binary digit of a at the place i.
func Bit(a []uint64, i int) int {
	if i < 0 || i/wordBits >= len(a) {
		return 0
	}
	return int(a[i/wordBits] >> (i % wordBits) & 1)
}

// width is how many words the least form of a has.
func width(a []uint64) int {
	n := len(a)
	for n > 0 && a[n-1] == 0 {
		n--
	}
	return n
}

// order holds two words against each other: -1, 0 or 1.
func order(x, y uint64) int {
	if x < y {
		return -1
	}
	if x > y {
		return 1
	}
	return 0
}

// addTo adds b to sum, which has at least as many words, and answers the carry out of sum.
func addTo(sum, b []uint64) uint64 {
	var carry uint64
	for i := range len(b) {
		sum[i], carry = bits.Add64(sum[i], b[i], carry)
	}
	for i := len(b); carry != 0 && i < len(sum); i++ {
		sum[i], carry = bits.Add64(sum[i], 0, carry)
	}
	return carry
}

// takeFrom takes b off diff, which is at least b and has at least as many words, so that no borrow is left.
func takeFrom(diff, b []uint64) {
	var borrow uint64
	for i := range len(b) {
		diff[i], borrow = bits.Sub64(diff[i], b[i], borrow)
	}
	for i := len(b); borrow != 0 && i < len(diff); i++ {
		diff[i], borrow = bits.Sub64(diff[i], 0, borrow)
	}
}
