package frac_test

import (
	"fmt"
	"testing"

	"trellis/api"
	"trellis/bezout"
	"trellis/check"
	"trellis/frac"
	"trellis/zint"
)

// fractions are of many sizes, in lowest terms or not, with each sign above and below.
func fractions() []api.Frac {
	long := append(check.Mixed(9, 3), 0, 0)
	sizes := []list{nil, {0}, {1}, {2}, {6, 0}, {15}, {top}, {0, 1}, {high, high}, {0, 6, 0}, check.Mixed(3, 1), long}
	var all []api.Frac
	for _, n := range check.Signs(sizes) {
		for _, d := range check.Signs(sizes[2:]) {
			all = append(all, of(n, d))
		}
	}
	return all
}

// someFractions are few enough to be taken three by three.
func someFractions() []api.Frac {
	return []api.Frac{
		over(0, -1), over(1, 1), over(-1, 1), over(1, 2), over(-2, 3), over(6, -4), over(-5, -10), over(7, 12), over(-12, 7), over(35, 18),
		of(minus(0, 0), plus(2, 0)), of(plus(6, 0), minus(8, 0, 0)), of(plus(top), plus(0, 1)), of(minus(0, 1), plus(top)), of(plus(0, 6), minus(0, 4)),
		of(plus(top, top), num(-12)), of(num(1), minus(high, high)), of(plus(check.Mixed(5, 1)...), minus(check.Mixed(4, 2)...)), of(minus(check.Mixed(3, 3)...), num(15)),
	}
}

// holdLowest asks that got is in lowest terms, and is n divided by d.
func holdLowest(t *testing.T, call string, got api.Frac, e api.Errno, n, d api.Int) {
	t.Helper()
	check.Same(t, call, e, api.OK)
	check.Same(t, call+": sign of the denominator", zint.Sign(got.Den), 1)
	check.Int(t, call+": common divisor", bezout.Gcd(got.Num, got.Den), num(1))
	check.Int(t, call+": least form of the numerator", got.Num, zint.Least(got.Num))
	check.Int(t, call+": least form of the denominator", got.Den, zint.Least(got.Den))
	check.Int(t, call+": crosswise", zint.Mul(got.Num, d), zint.Mul(n, got.Den))
}

// P8.1, P8.4, P8.7 and P8.8 for one fraction.
func TestLawsOfOne(t *testing.T) {
	for _, a := range fractions() {
		low, e := frac.Of(a.Num, a.Den)
		holdLowest(t, fmt.Sprintf("Of(%v, %v)", a.Num, a.Den), low, e, a.Num, a.Den)
		holdRoundings(t, a)
		holdChain(t, a, low)
	}
}

// holdRoundings asks how far from a the integers are that it is rounded to.
func holdRoundings(t *testing.T, a api.Frac) {
	t.Helper()
	below, e := frac.Floor(a)
	check.Same(t, fmt.Sprintf("Floor(%v)", a), e, api.OK)
	above := less(t, a, of(below, num(1)))
	check.Same(t, fmt.Sprintf("Floor(%v) = %v is not above it, and the next one is", a, below), order(t, above, over(0, 1)) >= 0 && order(t, above, over(1, 1)) < 0, true)
	nearest, e := frac.Nearest(a)
	check.Same(t, fmt.Sprintf("Nearest(%v)", a), e, api.OK)
	away := less(t, a, of(nearest, num(1)))
	low, high := order(t, away, over(-1, 2)), order(t, away, over(1, 2))
	check.Same(t, fmt.Sprintf("Nearest(%v) = %v is at most a half away", a, nearest), low >= 0 && high <= 0, true)
	if low == 0 || high == 0 {
		_, odd, _ := zint.Trunc(nearest, num(2))
		check.Int(t, fmt.Sprintf("Nearest(%v) = %v, one of two, is even", a, nearest), odd, num(0))
	}
	for _, n := range []api.Int{below, nearest} {
		check.Int(t, fmt.Sprintf("an integer near %v: least form", a), n, zint.Least(n))
	}
}

// less is Sub, where there is no error.
func less(t *testing.T, a, b api.Frac) api.Frac {
	t.Helper()
	got, e := frac.Sub(a, b)
	check.Same(t, fmt.Sprintf("Sub(%v, %v)", a, b), e, api.OK)
	return got
}

// order is Cmp, where there is no error.
func order(t *testing.T, a, b api.Frac) int {
	t.Helper()
	got, e := frac.Cmp(a, b)
	check.Same(t, fmt.Sprintf("Cmp(%v, %v)", a, b), e, api.OK)
	return got
}

// P8.2 and P8.3 for two fractions, by products of their numbers.
func TestLawsOfTwo(t *testing.T) {
	for _, a := range someFractions() {
		for _, b := range someFractions() {
			pair := fmt.Sprintf("(%v, %v)", a, b)
			left, right, den := zint.Mul(a.Num, b.Den), zint.Mul(b.Num, a.Den), zint.Mul(a.Den, b.Den)
			got, e := frac.Add(a, b)
			holdLowest(t, "Add"+pair, got, e, zint.Add(left, right), den)
			got, e = frac.Sub(a, b)
			holdLowest(t, "Sub"+pair, got, e, zint.Sub(left, right), den)
			check.Same(t, "Cmp"+pair, order(t, a, b), zint.Sign(got.Num))
			check.Same(t, "Cmp"+pair+" turned round", order(t, b, a), -zint.Sign(got.Num))
			got, e = frac.Mul(a, b)
			holdLowest(t, "Mul"+pair, got, e, zint.Mul(a.Num, b.Num), den)
			got, e = frac.Div(a, b)
			if zint.Sign(b.Num) == 0 {
				holdRefusal(t, "Div"+pair, got, e, api.ErrZero)
			} else {
				holdLowest(t, "Div"+pair, got, e, left, right)
			}
		}
	}
}

// P8.2 and P8.3 for three fractions: they reckon as fractions do.
func TestLawsOfThree(t *testing.T) {
	sum := func(a, b api.Frac) api.Frac { got, _ := frac.Add(a, b); return got }
	product := func(a, b api.Frac) api.Frac { got, _ := frac.Mul(a, b); return got }
	for _, a := range someFractions() {
		low, _ := frac.Of(a.Num, a.Den)
		for _, b := range someFractions() {
			check.Frac(t, fmt.Sprintf("a + b - b, a = %v, b = %v", a, b), less(t, sum(a, b), b), low)
			if zint.Sign(b.Num) != 0 {
				back, e := frac.Div(product(a, b), b)
				hold(t, fmt.Sprintf("a b / b, a = %v, b = %v", a, b), back, e, low)
			}
			for _, c := range someFractions() {
				triple := fmt.Sprintf(", a = %v, b = %v, c = %v", a, b, c)
				check.Frac(t, "(a + b) + c"+triple, sum(sum(a, b), c), sum(a, sum(b, c)))
				check.Frac(t, "(a b) c"+triple, product(product(a, b), c), product(a, product(b, c)))
				check.Frac(t, "a (b + c)"+triple, product(a, sum(b, c)), sum(product(a, b), product(a, c)))
				check.Same(t, "a + c against b + c"+triple, order(t, sum(a, c), sum(b, c)), order(t, a, b))
			}
		}
	}
}
