package modp_test

import (
	"fmt"
	"testing"

	"trellis/api"
	"trellis/check"
	"trellis/modp"
)

func holdPrime(t *testing.T, n uint64, want bool, wantErr api.Errno) {
	t.Helper()
	got, e := modp.Prime(n)
	check.Same(t, fmt.Sprintf("Prime(%d)", n), got, want)
	check.Same(t, fmt.Sprintf("Prime(%d)", n), e, wantErr)
}

func holdBelow(t *testing.T, n, want uint64, wantErr api.Errno) {
	t.Helper()
	got, e := modp.Below(n)
	check.Same(t, fmt.Sprintf("Below(%d)", n), got, want)
	check.Same(t, fmt.Sprintf("Below(%d)", n), e, wantErr)
}

// P12.1: from 0 on, around powers of 2 and the root of 2^31, and up to its end.
func TestPrimes(t *testing.T) {
	for _, span := range [][2]int{{0, 70000}, {1<<24 - 3000, 1<<24 + 3000}, {1 << 30, 1<<30 + 3000}, {46337*46337 - 500, 46337*46337 + 500}, {1<<31 - 12000, 1 << 31}} {
		start, end := span[0], span[1]
		last := uint64(0)
		for i, prime := range check.Sieve(start, end) {
			n := uint64(start + i)
			holdPrime(t, n, prime, api.OK)
			switch {
			case last > 0:
				holdBelow(t, n, last, api.OK)
			case start == 0:
				holdBelow(t, n, 0, api.ErrNone)
			}
			if prime {
				last = n
			}
		}
		holdBelow(t, uint64(end), last, api.OK)
	}
}

// P12.1: such as have no small divisor, and such as many tests take for primes.
func TestNoPrimes(t *testing.T) {
	const low, high = 45000, 46341
	for i, prime := range check.Sieve(low, high) {
		for j, other := range check.Sieve(low, high) {
			if prime && other && (low+i)*(low+j) < 1<<31 && (i == j || (i+j)%7 == 0) {
				holdPrime(t, uint64((low+i)*(low+j)), false, api.OK)
			}
		}
	}
	for _, n := range []uint64{
		341, 561, 1105, 1729, 2465, 2821, 6601, 8911, 2047, 3277, 4033, 4681, 8321, 1373653, 1530787, 25326001, 161304001, 960946321, 1157839381,
		2147483641, 2147483643, 2147483645, 2147483646,
	} {
		holdPrime(t, n, false, api.OK)
	}
	for _, n := range []uint64{3, 5, 7, 65537, 1073741789, 1073741827, 2147483549, 2147483563, 2147483579, 2147483587, 2147483629, 2147483647} {
		holdPrime(t, n, true, api.OK)
	}
}

// P12.1: from 2^31 on nothing is told, primes or not.
func TestTooLarge(t *testing.T) {
	for _, n := range []uint64{1<<31 + 1, 1<<31 + 2, 2147483659, 1<<32 - 5, 1 << 32, 1<<32 + 1, 1<<32 + 2, 1<<32 + 15, 1<<33 + 3, 1 << 63, 1<<63 + 2, top - 58, top - 1, top} {
		holdPrime(t, n, false, api.ErrLarge)
		holdBelow(t, n, 0, api.ErrLarge)
	}
	holdPrime(t, 1<<31, false, api.ErrLarge)
	for n := range uint64(3) {
		holdBelow(t, n, 0, api.ErrNone)
	}
}
