package frac_test

import (
	"fmt"
	"testing"

	"trellis/api"
	"trellis/bezout"
	"trellis/check"
	"trellis/frac"
	"trellis/zint"
)

// P8.9.
func TestRecover(t *testing.T) {
	for _, c := range []struct {
		r, m api.Int
		want api.Frac
	}{
		{num(6), num(19), over(-1, 3)},
		{num(10), num(19), over(1, 2)},
		{num(0), num(19), over(0, 1)},
		{num(-18), num(19), over(1, 1)},
		{num(3), num(19), over(3, 1)},
		{num(-3), num(19), over(-3, 1)},
		{num(16), num(19), over(-3, 1)},
		{num(1), num(9), over(1, 1)},
		{num(5), num(9), over(1, 2)},
		{num(0), num(3), over(0, 1)},
		{num(1), num(3), over(1, 1)},
		{num(2), num(3), over(-1, 1)},
		{num(32), num(32), over(0, 1)},
		{num(-64), num(32), over(0, 1)},
		{minus(0), plus(32, 0), over(0, 1)},
		{minus(18, 0), plus(19, 0, 0), over(1, 1)},
		{plus(high), plus(top), over(1, 2)},
		{plus(0, 0, high), plus(1, 0, 0, 1), over(-1, 2)},
		{plus(0, high), plus(1, 0, 0, 1), of(num(-1), plus(0, 2))},
	} {
		got, e := frac.Recover(c.r, c.m)
		hold(t, fmt.Sprintf("Recover(%v, %v)", c.r, c.m), got, e, c.want)
	}
}

// P8.9: where there is no such fraction, and where m is below 1.
func TestRecoverNothing(t *testing.T) {
	for _, c := range []struct {
		r, m api.Int
		e    api.Errno
	}{
		{num(4), num(19), api.ErrNone},
		{num(5), num(1), api.ErrNone},
		{num(0), num(1), api.ErrNone},
		{num(0), num(2), api.ErrNone},
		{num(1), num(2), api.ErrNone},
		{num(-1), plus(1, 0), api.ErrNone},
		{num(16), num(32), api.ErrNone},
		{num(8), num(32), api.ErrNone},
		{num(4), num(18), api.ErrNone},
		{num(3), num(18), api.ErrNone},
		{minus(0), minus(0), api.ErrArg},
		{num(5), num(-7), api.ErrArg},
		{num(0), num(-1), api.ErrArg},
		{num(1), minus(0, 1), api.ErrArg},
		{plus(top, top), minus(1, 0), api.ErrArg},
	} {
		got, e := frac.Recover(c.r, c.m)
		holdRefusal(t, fmt.Sprintf("Recover(%v, %v)", c.r, c.m), got, e, c.e)
	}
	for _, zero := range check.Zeros() {
		for _, r := range append(check.Zeros(), num(5), num(-5), plus(0, 0, 1)) {
			got, e := frac.Recover(r, zero)
			holdRefusal(t, fmt.Sprintf("Recover(%v, %v)", r, zero), got, e, api.ErrArg)
		}
	}
}

// searchRecover is all fractions that the chapter allows for r and m, found by its words.
func searchRecover(r, m int) []api.Frac {
	k := 0
	for 2*(k+1)*(k+1) <= m-1 {
		k++
	}
	var all []api.Frac
	for n := -k; n <= k; n++ {
		for d := 1; d <= k; d++ {
			if common(n, d) == 1 && common(d, m) == 1 && (n-r*d)%m == 0 {
				all = append(all, over(n, d))
			}
		}
	}
	return all
}

// common is the greatest common divisor, by search; the second number is above 0.
func common(a, b int) int {
	d := b
	for a%d != 0 || b%d != 0 {
		d--
	}
	return d
}

// P8.9: each residue modulo each small m, and the same a turn below and above.
func TestRecoverBySearch(t *testing.T) {
	for m := 1; m <= 163; m++ {
		for r := range m {
			want := searchRecover(r, m)
			check.Same(t, fmt.Sprintf("there is at most one fraction that is %d modulo %d", r, m), len(want) <= 1, true)
			for _, r := range []int{r, r - m, r + m, r - 7*m} {
				got, e := frac.Recover(num(r), num(m))
				call := fmt.Sprintf("Recover(%d, %d)", r, m)
				if len(want) == 0 {
					holdRefusal(t, call, got, e, api.ErrNone)
				} else {
					hold(t, call, got, e, want[0])
				}
			}
		}
	}
}

// holdRecovered asks that n/d, which the bound of m allows, comes back from its residue, and from that residue a few turns off.
func holdRecovered(t *testing.T, n, d, m api.Int) {
	t.Helper()
	low, _ := frac.Of(n, d)
	inverse, e := bezout.Inverse(low.Den, m)
	if e != api.OK {
		return
	}
	r := zint.Mul(low.Num, inverse)
	for _, r := range []api.Int{r, zint.MulAdd(m, num(-3), r), zint.MulAdd(m, m, r)} {
		got, e := frac.Recover(r, m)
		hold(t, fmt.Sprintf("Recover(%v, %v)", r, m), got, e, low)
	}
}

// bounds are some k, small ones and long ones.
func bounds() []api.Int {
	all := nums(1, 2, 3, 4, 5, 6, 7, 10, 99, 1000)
	return append(all, plus(top), plus(0, 1), plus(1, 1), plus(high, high), plus(append(check.Mixed(5, 1), 7)...), plus(append(check.Mixed(20, 2), high)...))
}

// near are the numbers from 1 to k at its ends.
func near(k api.Int) []api.Int {
	var all []api.Int
	for _, n := range []api.Int{num(1), num(2), zint.Sub(k, num(1)), k} {
		if zint.Sign(n) > 0 && zint.Cmp(n, k) <= 0 {
			all = append(all, n)
		}
	}
	return all
}

// P8.9 within the bound: m is as little as it can be with this k, or as great.
func TestRecoverWithinTheBound(t *testing.T) {
	for _, k := range bounds() {
		least := zint.MulAdd(zint.Add(k, k), k, num(1))
		next := zint.Add(k, num(1))
		greatest := zint.Mul(zint.Add(next, next), next)
		for _, m := range []api.Int{least, zint.Add(least, num(1)), zint.Sub(greatest, num(1)), greatest} {
			for _, d := range near(k) {
				holdRecovered(t, num(0), d, m)
				for _, n := range near(k) {
					holdRecovered(t, n, d, m)
					holdRecovered(t, zint.Neg(n), d, m)
				}
			}
		}
	}
}

// P8.9 at the bound: k and 1/k, where 2 k k is just below m, and where it is not.
func TestRecoverAtTheBound(t *testing.T) {
	for _, k := range bounds() {
		double := zint.Add(k, k)
		square := zint.Mul(double, k)
		for _, turn := range nums(1, -1) {
			r, twice := zint.Mul(turn, k), zint.Mul(turn, double)
			got, e := frac.Recover(r, zint.Add(square, num(1)))
			hold(t, fmt.Sprintf("Recover(%v, 2 k k + 1), k = %v", r, k), got, e, of(r, num(1)))
			got, e = frac.Recover(r, square)
			holdRefusal(t, fmt.Sprintf("Recover(%v, 2 k k), k = %v", r, k), got, e, api.ErrNone)
			// Modulo 2 k k + 1 the inverse of k is -2 k, and modulo 2 k k - 1 it is 2 k.
			got, e = frac.Recover(twice, zint.Add(square, num(1)))
			hold(t, fmt.Sprintf("Recover(%v, 2 k k + 1), k = %v", twice, k), got, e, of(zint.Neg(turn), k))
			got, e = frac.Recover(twice, zint.Sub(square, num(1)))
			holdRefusal(t, fmt.Sprintf("Recover(%v, 2 k k - 1), k = %v", twice, k), got, e, api.ErrNone)
		}
	}
}

// P8.9 for residues without order: what is answered is allowed; and some fractions are found, and some not.
func TestRecoverLaws(t *testing.T) {
	found, missed := 0, 0
	for i := range 200 {
		m := plus(append(check.Mixed(1+i%7, uint64(i)), 1, 0)...)
		r := api.Int{Neg: i%2 == 0, Mag: check.Mixed(9, uint64(1000+i))}
		got, e := frac.Recover(r, m)
		call := fmt.Sprintf("Recover(%v, %v) = %v", r, m, got)
		if e != api.OK {
			holdRefusal(t, call, got, e, api.ErrNone)
			missed++
			continue
		}
		found++
		holdLowest(t, call, got, e, got.Num, got.Den)
		for _, n := range []api.Int{got.Num, got.Den} {
			check.Same(t, call+": twice the square is below m", zint.Cmp(zint.Mul(zint.Add(n, n), n), m) < 0, true)
		}
		check.Int(t, call+": common divisor of d and m", bezout.Gcd(got.Den, m), num(1))
		_, e = zint.Exact(zint.Sub(got.Num, zint.Mul(r, got.Den)), m)
		check.Same(t, call+": m divides n - r d", e, api.OK)
	}
	check.Same(t, fmt.Sprintf("of 200 residues %d are fractions, %d are not: some of each kind", found, missed), min(found, missed) > 20, true)
}
