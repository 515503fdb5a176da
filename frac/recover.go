package frac

import (
	"trellis/api"
	"trellis/bezout"
	"trellis/divnat"
	"trellis/zint"
)

// Recover: the small fraction that is r modulo m.
func Recover(r, m api.Int) (api.Frac, api.Errno) {
	if zint.Sign(m) < 1 {
		return api.Frac{}, api.ErrArg
	}
	k := bound(m)
	rest, times := firstWithin(k, r, m)
	// This is the only fraction to look at. Wherever 2 |n| d is below m, n and d are, but for their signs, rest and times of some step of that reckoning.
	// No step behind this one has both within k: of two steps in a row, each one's rest, taken the other's times, sum to m, which is above 2 k k.
	// What divides times and m divides the rest, and what divides times and the rest divides m. So this asks for lowest terms too.
	if zint.CmpAbs(times, k) > 0 || zint.Cmp(bezout.Gcd(times, m), zint.Of(1)) != 0 {
		return api.Frac{}, api.ErrNone
	}
	return Of(rest, times)
}

// bound is the greatest k from 0 on with 2 k k <= m - 1, for m above 0.
func bound(m api.Int) api.Int {
	half, _, _ := zint.Floor(zint.Sub(m, zint.Of(1)), zint.Of(2))
	k, _ := divnat.Sqrt(half.Mag)
	return api.Int{Mag: k}
}

// firstWithin divides m by r, goes on with divisor and rest, and so on, up to the first number that is not above k.
// It answers that one, and how often r has to be taken to be like it, modulo m.
func firstWithin(k, r, m api.Int) (rest, times api.Int) {
	before, timesBefore := m, zint.Of(0)
	rest, _ = zint.Mod(r, m)
	times = zint.Of(1)
	for zint.Cmp(rest, k) > 0 {
		quotient, next, _ := zint.Trunc(before, rest)
		before, rest = rest, next
		timesBefore, times = times, zint.Sub(timesBefore, zint.Mul(quotient, times))
	}
	return rest, times
}
