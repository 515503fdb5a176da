package snf

import (
	"iter"
	"math/bits"

	"trellis/api"
	"trellis/bezout"
	"trellis/zint"
)

// divides says if n divides m: 0 divides 0 alone.
func divides(n, m api.Int) bool {
	if zint.Sign(n) == 0 {
		return zint.Sign(m) == 0
	}
	_, e := zint.Exact(m, n)
	return e == api.OK
}

// isChain says if all numbers are at least 0, and each divides the next.
func isChain(list []api.Int) bool {
	for i, n := range list {
		if zint.Sign(n) < 0 || i > 0 && !divides(list[i-1], n) {
			return false
		}
	}
	return true
}

// divisorFirst is the greatest common divisor of two numbers that are at least 0, and their least common multiple.
func divisorFirst(n, m api.Int) (divisor, multiple api.Int) {
	switch {
	case divides(n, m):
		return n, m
	case divides(m, n):
		return m, n
	}
	divisor = bezout.Gcd(n, m)
	// Neither is 0, so there is no error.
	part, _ := zint.Exact(n, divisor)
	return divisor, zint.Mul(part, m)
}

// exchanges are pairs of places, the lesser first. A list of n numbers in which, at one pair after the other, the greatest common divisor is put first and the least common multiple behind it is a chain at the end.
// The pairs are those of Batcher's merge exchange, which sorts numbers by putting the lesser first: divisor and multiple do that to the exponents of each prime. They are far fewer than all pairs, and lie in few layers, so that the multipliers of one number do not pile up.
func exchanges(n int) iter.Seq2[int, int] {
	return func(yield func(i, j int) bool) {
		if n < 2 {
			return
		}
		top := 1 << (bits.Len(uint(n-1)) - 1)
		for part := top; part > 0; part /= 2 {
			distance, first := part, 0
			for next := top; ; next /= 2 {
				for i := range n - distance {
					if i&part == first && !yield(i, i+distance) {
						return
					}
				}
				if next == part {
					break
				}
				distance, first = next-part, part
			}
		}
	}
}
