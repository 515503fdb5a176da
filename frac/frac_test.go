package frac_test

import (
	"fmt"
	"testing"

	"trellis/api"
	"trellis/check"
	"trellis/frac"
)

const (
	top  = check.Top
	high = check.High
)

type list = []uint64

// The integers and fractions of the tests.
var (
	num, nums   = check.Num, check.Nums
	plus, minus = check.Plus, check.Minus
	over        = check.Over
)

// of is n divided by d, just as it is handed in.
func of(n, d api.Int) api.Frac { return api.Frac{Num: n, Den: d} }

// hold asks for a fraction without an error.
func hold(t *testing.T, call string, got api.Frac, e api.Errno, want api.Frac) {
	t.Helper()
	check.Same(t, call, e, api.OK)
	check.Frac(t, call, got, want)
}

// holdRefusal asks for an error with nothing beside it.
func holdRefusal(t *testing.T, call string, got api.Frac, e, want api.Errno) {
	t.Helper()
	check.Same(t, call, e, want)
	check.Frac(t, call+", beside the error", got, api.Frac{})
}

// reckonings are the calls that make a fraction of two, by their names.
func reckonings() map[string]func(a, b api.Frac) (api.Frac, api.Errno) {
	return map[string]func(a, b api.Frac) (api.Frac, api.Errno){"Add": frac.Add, "Sub": frac.Sub, "Mul": frac.Mul, "Div": frac.Div}
}

// roundings are the calls that make an integer of one, by their names.
func roundings() map[string]func(a api.Frac) (api.Int, api.Errno) {
	return map[string]func(a api.Frac) (api.Int, api.Errno){"Floor": frac.Floor, "Nearest": frac.Nearest}
}

// P8.1.
func TestOf(t *testing.T) {
	for _, c := range []struct {
		num, den api.Int
		want     api.Frac
	}{
		{num(4), num(-6), over(-2, 3)},
		{num(-4), num(6), over(-2, 3)},
		{num(-4), num(-6), over(2, 3)},
		{num(4), num(6), over(2, 3)},
		{num(0), num(-5), over(0, 1)},
		{num(0), num(5), over(0, 1)},
		{num(0), num(1), over(0, 1)},
		{num(7), num(1), over(7, 1)},
		{num(7), num(-1), over(-7, 1)},
		{num(-7), num(-7), over(1, 1)},
		{num(7), num(-7), over(-1, 1)},
		{num(3), num(5), over(3, 5)},
		{num(12), num(4), over(3, 1)},
		{num(4), num(12), over(1, 3)},
		{num(36), num(-60), over(-3, 5)},
		{minus(0), plus(5), over(0, 1)},
		{minus(0, 0), minus(5, 0), over(0, 1)},
		{plus(4, 0), minus(6, 0, 0), over(-2, 3)},
		{minus(3, 0, 0), plus(5, 0), over(-3, 5)},
		{plus(0, 1), plus(0, 0, 1), of(num(1), plus(0, 1))},
		{minus(0, 6), plus(0, 4), over(-3, 2)},
		{minus(high), minus(top), of(plus(high), plus(top))},
		{plus(top, top), minus(top), of(minus(1, 1), num(1))},
		{plus(top), minus(top, top), of(num(-1), plus(1, 1))},
	} {
		got, e := frac.Of(c.num, c.den)
		hold(t, fmt.Sprintf("Of(%v, %v)", c.num, c.den), got, e, c.want)
	}
}

// P8.2.
func TestReckonings(t *testing.T) {
	for _, c := range []struct{ a, b, sum, difference, product, quotient api.Frac }{
		{over(1, 6), over(1, 3), over(1, 2), over(-1, 6), over(1, 18), over(1, 2)},
		{over(1, 3), over(2, 6), over(2, 3), over(0, 1), over(1, 9), over(1, 1)},
		{over(-2, 3), over(3, -2), over(-13, 6), over(5, 6), over(1, 1), over(4, 9)},
		{over(2, 3), over(-4, 1), over(-10, 3), over(14, 3), over(-8, 3), over(-1, 6)},
		{over(0, 7), over(-3, -6), over(1, 2), over(-1, 2), over(0, 1), over(0, 1)},
		{over(0, -7), over(5, 1), over(5, 1), over(-5, 1), over(0, 1), over(0, 1)},
		{over(1, 2), over(1, -2), over(0, 1), over(1, 1), over(-1, 4), over(-1, 1)},
		{over(3, 1), over(4, 1), over(7, 1), over(-1, 1), over(12, 1), over(3, 4)},
		{over(5, 12), over(7, 18), over(29, 36), over(1, 36), over(35, 216), over(15, 14)},
		{over(-9, -6), over(10, -4), over(-1, 1), over(4, 1), over(-15, 4), over(-3, 5)},
		{of(minus(0), minus(7, 0)), of(plus(2, 0), minus(4, 0, 0)), over(-1, 2), over(1, 2), over(0, 1), over(0, 1)},
		{of(num(1), plus(0, 1)), of(num(1), plus(0, 1)), of(num(1), plus(high)), over(0, 1), of(num(1), plus(0, 0, 1)), over(1, 1)},
		{of(plus(top), num(1)), of(num(1), plus(top)), of(plus(2, top-1), plus(top)), of(plus(0, top-1), plus(top)), over(1, 1), of(plus(1, top-1), num(1))},
	} {
		for name, want := range map[string]api.Frac{"Add": c.sum, "Sub": c.difference, "Mul": c.product, "Div": c.quotient} {
			got, e := reckonings()[name](c.a, c.b)
			hold(t, fmt.Sprintf("%s(%v, %v)", name, c.a, c.b), got, e, want)
		}
	}
}

// P8.2: what is 0, in whatever form, divides nothing.
func TestDivByZero(t *testing.T) {
	for _, zero := range check.Zeros() {
		for _, a := range []api.Frac{over(1, 2), over(0, 3), over(-5, -1), of(zero, num(1)), of(zero, zero), over(1, 0), of(plus(top, top, 0), plus(0, 1))} {
			for _, den := range []api.Int{num(1), num(3), num(-3), plus(top, 0), zero} {
				got, e := frac.Div(a, of(zero, den))
				holdRefusal(t, fmt.Sprintf("Div(%v, %v over %v)", a, zero, den), got, e, api.ErrZero)
			}
		}
	}
}

// P8.3.
func TestCmp(t *testing.T) {
	for _, c := range []struct {
		a, b api.Frac
		want int
	}{
		{over(-1, 2), over(2, -4), 0},
		{over(1, 3), over(1, 2), -1},
		{over(1, -3), over(-1, 2), 1},
		{over(-1, 3), over(1, 3), -1},
		{over(-1, 3), over(1, -4), -1},
		{over(-1, -3), over(1, -4), 1},
		{over(0, -5), over(0, 3), 0},
		{over(0, -5), over(-1, 1000), 1},
		{over(0, 5), over(-1, -1000), -1},
		{over(7, 1), over(14, 2), 0},
		{over(7, 1), over(15, 2), -1},
		{over(1, 1000), over(1000, 1), -1},
		{of(minus(0), minus(5, 0)), of(plus(0, 0), num(1)), 0},
		{of(plus(top), plus(0, 1)), of(plus(0, 1), plus(1, 1)), -1},
		{of(plus(0, 1), plus(top)), of(plus(1, 1), plus(0, 1)), 1},
		{of(minus(0, 1), plus(top)), of(plus(1, 1), minus(0, 1)), -1},
		{of(plus(top, top), plus(top)), of(minus(1, 1, 0), minus(1, 0)), 0},
	} {
		for _, turn := range []int{1, -1} {
			got, e := frac.Cmp(c.a, c.b)
			check.Same(t, fmt.Sprintf("Cmp(%v, %v)", c.a, c.b), got, c.want*turn)
			check.Same(t, fmt.Sprintf("Cmp(%v, %v)", c.a, c.b), e, api.OK)
			c.a, c.b = c.b, c.a
		}
	}
}

// P8.4.
func TestRoundings(t *testing.T) {
	for _, c := range []struct {
		a              api.Frac
		floor, nearest api.Int
	}{
		{over(-7, 2), num(-4), num(-4)},
		{over(7, -2), num(-4), num(-4)},
		{over(5, 2), num(2), num(2)},
		{over(-5, 2), num(-3), num(-2)},
		{over(8, 3), num(2), num(3)},
		{over(7, 2), num(3), num(4)},
		{over(-7, -2), num(3), num(4)},
		{over(14, 4), num(3), num(4)},
		{over(-8, 3), num(-3), num(-3)},
		{over(7, 3), num(2), num(2)},
		{over(-7, 3), num(-3), num(-2)},
		{over(7, -3), num(-3), num(-2)},
		{over(1, 2), num(0), num(0)},
		{over(-1, 2), num(-1), num(0)},
		{over(3, 2), num(1), num(2)},
		{over(3, -2), num(-2), num(-2)},
		{over(1, 3), num(0), num(0)},
		{over(-1, 3), num(-1), num(0)},
		{over(2, 3), num(0), num(1)},
		{over(-2, 3), num(-1), num(-1)},
		{over(6, 1), num(6), num(6)},
		{over(6, -2), num(-3), num(-3)},
		{over(-7, 1), num(-7), num(-7)},
		{over(0, -4), num(0), num(0)},
		{of(minus(0, 0), minus(4, 0)), num(0), num(0)},
		{of(minus(7, 0), plus(2, 0, 0)), num(-4), num(-4)},
		{of(plus(0, 1), plus(2, 0)), plus(high), plus(high)},
		{of(plus(1, 1), num(2)), plus(high), plus(high)},
		{of(plus(3, 1), num(2)), plus(high + 1), plus(high + 2)},
		{of(plus(top), num(2)), plus(high - 1), plus(high)},
		{of(minus(top), num(2)), minus(high), minus(high)},
		{of(plus(top, 1), num(2)), plus(top), plus(0, 1)},
		{of(minus(top, 1), num(2)), minus(0, 1), minus(0, 1)},
		{of(plus(high), plus(0, 1)), num(0), num(0)},
		{of(plus(high+1), plus(0, 1)), num(0), num(1)},
		{of(plus(high-1), minus(0, 1)), num(-1), num(0)},
		{of(plus(high), minus(0, 1)), num(-1), num(0)},
		{of(plus(high+1), minus(0, 1)), num(-1), num(-1)},
	} {
		for name, want := range map[string]api.Int{"Floor": c.floor, "Nearest": c.nearest} {
			got, e := roundings()[name](c.a)
			check.Int(t, fmt.Sprintf("%s(%v)", name, c.a), got, want)
			check.Same(t, fmt.Sprintf("%s(%v)", name, c.a), e, api.OK)
		}
	}
}

// What is handed in with a denominator of 0, in whatever form and at whatever place, is no fraction: for all calls that take one, and for Of.
func TestNoFraction(t *testing.T) {
	for _, zero := range check.Zeros() {
		for _, n := range append(check.Zeros(), num(1), num(-7), plus(top, top), minus(0, 0, 1, 0)) {
			holdNoFraction(t, of(n, zero))
		}
	}
}

func holdNoFraction(t *testing.T, none api.Frac) {
	t.Helper()
	got, e := frac.Of(none.Num, none.Den)
	holdRefusal(t, fmt.Sprintf("Of(%v, %v)", none.Num, none.Den), got, e, api.ErrZero)
	for _, other := range []api.Frac{over(1, 2), over(0, 1), over(-3, -9), none} {
		for name, call := range reckonings() {
			got, e := call(none, other)
			holdRefusal(t, fmt.Sprintf("%s(%v, %v)", name, none, other), got, e, api.ErrZero)
			got, e = call(other, none)
			holdRefusal(t, fmt.Sprintf("%s(%v, %v)", name, other, none), got, e, api.ErrZero)
		}
		for _, pair := range [][2]api.Frac{{none, other}, {other, none}} {
			order, e := frac.Cmp(pair[0], pair[1])
			check.Same(t, fmt.Sprintf("Cmp(%v, %v), beside the error", pair[0], pair[1]), order, 0)
			check.Same(t, fmt.Sprintf("Cmp(%v, %v)", pair[0], pair[1]), e, api.ErrZero)
		}
	}
	for name, call := range roundings() {
		got, e := call(none)
		check.Int(t, fmt.Sprintf("%s(%v), beside the error", name, none), got, num(0))
		check.Same(t, fmt.Sprintf("%s(%v)", name, none), e, api.ErrZero)
	}
	text, e := frac.Text(none)
	check.Same(t, fmt.Sprintf("Text(%v), beside the error", none), text, "")
	check.Same(t, fmt.Sprintf("Text(%v)", none), e, api.ErrZero)
	chain, e := frac.Chain(none)
	check.Ints(t, fmt.Sprintf("Chain(%v), beside the error", none), chain, nil)
	check.Same(t, fmt.Sprintf("Chain(%v)", none), e, api.ErrZero)
}
