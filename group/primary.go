package group

import (
	"cmp"
	"slices"

	"trellis/api"
	"trellis/zint"
)

// smallFactors are the factors as words, if each is from 1 on and below 2^31.
func smallFactors(factors []api.Int) ([]uint64, api.Errno) {
	// All of them are asked this first, since it is the error that comes first.
	if !areFactors(factors) {
		return nil, api.ErrArg
	}
	words := make([]uint64, len(factors))
	for i, n := range factors {
		small, e := zint.Small(n)
		if e != api.OK || small >= api.PrimeTop {
			return nil, api.ErrLarge
		}
		words[i] = uint64(small)
	}
	return words, api.OK
}

// gather puts the highest powers of primes that divide n, from 1 on, to those that were found: at each prime the exponents.
func gather(powers map[uint64][]int, n uint64) {
	// 2, and then odd numbers alone: what is left of n when they have been taken out is divided by primes alone.
	for divisor := uint64(2); divisor*divisor <= n; divisor += 1 + divisor%2 {
		exponent := 0
		for n%divisor == 0 {
			n /= divisor
			exponent++
		}
		if exponent > 0 {
			powers[divisor] = append(powers[divisor], exponent)
		}
	}
	if n > 1 {
		// No number up to its root divides what is left.
		powers[n] = append(powers[n], 1)
	}
}

// sorted are the powers by their primes, those of one prime by their exponents.
func sorted(powers map[uint64][]int) []api.Power {
	var all []api.Power
	for prime, exponents := range powers {
		for _, exponent := range exponents {
			all = append(all, api.Power{Prime: prime, Exp: exponent})
		}
	}
	slices.SortFunc(all, func(p, q api.Power) int {
		return cmp.Or(cmp.Compare(p.Prime, q.Prime), cmp.Compare(p.Exp, q.Exp))
	})
	return all
}
