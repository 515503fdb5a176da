package divnat

import (
	"math/bits"

	"trellis/api"
	"trellis/mulnat"
	"trellis/nat"
)

// Sqrt: the square root of a, rounded down, and what is left.
func Sqrt(a []uint64) ([]uint64, []uint64) {
	root, _ := Root(a, 2)
	// The square is at most a, so the difference has no error.
	left, _ := nat.Sub(a, mulnat.Square(root))
	return root, left
}

// Root: the k-th root of a, rounded down.
func Root(a []uint64, k int) ([]uint64, api.Errno) {
	if k < 1 {
		return nil, api.ErrArg
	}
	places := nat.BitLen(a)
	switch {
	case places == 0:
		return nil, api.OK
	case k >= places:
		return []uint64{1}, api.OK
	case k == 1:
		return nat.Least(a), api.OK
	}
	return root(a, k), api.OK
}

// root is the k-th root of a, rounded down, for k above 1 and below a's number of binary digits.
func root(a []uint64, k int) []uint64 {
	places := (nat.BitLen(a)-1)/k + 1
	// With so few words left open, one step down from the root of the upper part is within about 1 of the root.
	words := (places - bits.Len(uint(k))) / (2 * wordBits)
	if words <= 0 {
		return bitByBit(a, k, places)
	}
	upper, _ := nat.Shr(a, k*words*wordBits)
	above := nat.Add(root(upper, k), []uint64{1})
	return stepDown(a, append(make([]uint64, words), above...), k)
}

// bitByBit tries each binary digit of the root, which has as many as places, from the highest down.
func bitByBit(a []uint64, k, places int) []uint64 {
	root := make([]uint64, (places+wordBits-1)/wordBits)
	for i := places - 1; i >= 0; i-- {
		word, bit := i/wordBits, uint64(1)<<(i%wordBits)
		root[word] |= bit
		if nat.Cmp(power(root, k), a) > 0 {
			root[word] &^= bit
		}
	}
	return root
}

// stepDown comes down to the root from x, which is above it, by Newton's steps:
// from above the root a step goes down and never below it, so the first step that doesn't go down starts at it.
func stepDown(a, x []uint64, k int) []uint64 {
	for {
		quotient, _, _ := DivMod(a, power(x, k-1))
		next, _, _ := Word(nat.Add(mulnat.Word(x, uint64(k-1)), quotient), uint64(k))
		if nat.Cmp(next, x) >= 0 {
			return x
		}
		x = next
	}
}

// power is x to the power n for n of any size: mulnat's powers have a limit, roots have none.
func power(x []uint64, n int) []uint64 {
	if n <= api.MaxPow {
		whole, _ := mulnat.Pow(x, n)
		return whole
	}
	whole := mulnat.Square(power(x, n/2))
	if n%2 == 1 {
		whole = mulnat.Mul(whole, x)
	}
	return whole
}
