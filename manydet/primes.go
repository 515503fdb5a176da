package manydet

import (
	"trellis/api"
	"trellis/bezout"
	"trellis/modp"
	"trellis/nat"
	"trellis/zint"
)

// primeBits: each prime that is taken is above 2 to this power.
const primeBits = 30

// mostPrimes is how many primes are taken at most. Between 2^30 and 2^31 there are more than three times as many: so as many are found there even where as many others divide a number that none may divide, whose size is within the bound too.
// What would take more, numbers of some 500 million binary digits, is left to the layers that reckon without primes: the longest that may be handed in have more than all primes together could tell.
const mostPrimes = 1 << 24

// enough is how many primes above 2^30 have a product above twice the bound, whichever they are.
func enough(bound api.Int) int {
	// Twice the bound has one binary digit more than the bound.
	return nat.BitLen(bound.Mag)/primeBits + 1
}

// greatest are the greatest primes below 2^31 that do not divide n, so many of them, the greatest first.
func greatest(count int, n api.Int) []uint64 {
	var list []uint64
	for p := uint64(api.PrimeTop); p > 2 && len(list) < count; {
		p, _ = modp.Below(p)
		rest, _ := zint.Mod(n, zint.Of(int64(p)))
		if zint.Sign(rest) != 0 {
			list = append(list, p)
		}
	}
	return list
}

// integers are numbers below 2^31 as integers.
func integers(list []uint64) []api.Int {
	all := make([]api.Int, len(list))
	for i, n := range list {
		all[i] = zint.Of(int64(n))
	}
	return all
}

// together is the integer with these residues modulo these primes, no two of which are the same: the one whose double is at most their product in size.
func together(residues, ps []api.Int) api.Int {
	r, m, _ := bezout.CrtAll(residues, ps)
	whole, _ := zint.Sym(r, m)
	return whole
}
