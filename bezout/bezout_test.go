package bezout_test

import (
	"fmt"
	"testing"

	"trellis/api"
	"trellis/bezout"
	"trellis/check"
)

const (
	top  = check.Top
	high = check.High
)

type list = []uint64

// The integers of the tests.
var (
	num, nums   = check.Num, check.Nums
	plus, minus = check.Plus, check.Minus
)

// P6.1.
func TestGcdAndLcm(t *testing.T) {
	for _, c := range []struct{ a, b, gcd, lcm api.Int }{
		{num(-12), num(18), num(6), num(36)},
		{num(12), num(-18), num(6), num(36)},
		{num(-12), num(-18), num(6), num(36)},
		{num(-4), num(6), num(2), num(12)},
		{num(0), num(-5), num(5), num(0)},
		{num(-5), num(0), num(5), num(0)},
		{num(0), num(9), num(9), num(0)},
		{num(0), num(0), num(0), num(0)},
		{num(1), num(-1), num(1), num(1)},
		{num(7), num(1), num(1), num(7)},
		{num(-7), num(-7), num(7), num(7)},
		{num(3), num(-12), num(3), num(12)},
		{minus(12, 0), plus(18, 0, 0), num(6), num(36)},
		{minus(0), minus(5, 0), num(5), num(0)},
		{minus(0, 0), minus(0), num(0), num(0)},
		{plus(0, 1), minus(0, 0, 1), plus(0, 1), plus(0, 0, 1)},
		{minus(0, 6), plus(0, 4), plus(0, 2), plus(0, 12)},
		{plus(top), plus(high), num(1), plus(high, high-1)},
		{minus(high), num(6), num(2), plus(high, 1)},
		{plus(top, top), minus(top), plus(top), plus(top, top)},
	} {
		for _, pair := range [][2]api.Int{{c.a, c.b}, {c.b, c.a}} {
			call := fmt.Sprintf("(%v, %v)", pair[0], pair[1])
			check.Int(t, "Gcd"+call, bezout.Gcd(pair[0], pair[1]), c.gcd)
			check.Int(t, "Lcm"+call, bezout.Lcm(pair[0], pair[1]), c.lcm)
		}
	}
}

// P6.1.
func TestGcdAll(t *testing.T) {
	for _, c := range []struct {
		list []api.Int
		want api.Int
	}{
		{nil, num(0)},
		{nums(), num(0)},
		{nums(0), num(0)},
		{nums(-8), num(8)},
		{nums(8), num(8)},
		{check.Zeros(), num(0)},
		{append(check.Zeros(), num(-4)), num(4)},
		{nums(6, -10, 15), num(1)},
		{nums(6, -10, 14), num(2)},
		{nums(0, -6, 0, -9), num(3)},
		{nums(1, 0, 5), num(1)},
		{nums(12, 18, 27, 1), num(1)},
		{[]api.Int{minus(0, 6, 0), plus(0, 4), minus(0, 10)}, plus(0, 2)},
		{[]api.Int{minus(5, 0, 0)}, num(5)},
	} {
		check.Int(t, fmt.Sprintf("GcdAll(%v)", c.list), bezout.GcdAll(c.list), c.want)
	}
}

// P6.2.
func TestExt(t *testing.T) {
	for _, c := range []struct{ a, b, g, x, y api.Int }{
		{num(12), num(18), num(6), num(2), num(-1)},
		{num(18), num(12), num(6), num(1), num(-1)},
		{num(-7), num(3), num(1), num(2), num(5)},
		{num(7), num(-3), num(1), num(1), num(2)},
		{num(-7), num(-3), num(1), num(2), num(-5)},
		{num(7), num(3), num(1), num(1), num(-2)},
		{num(0), num(-5), num(5), num(0), num(-1)},
		{num(0), num(5), num(5), num(0), num(1)},
		{num(-5), num(0), num(5), num(-1), num(0)},
		{num(5), num(0), num(5), num(1), num(0)},
		{num(0), num(0), num(0), num(0), num(0)},
		{num(4), num(4), num(4), num(0), num(1)},
		{num(4), num(-4), num(4), num(0), num(-1)},
		{num(-4), num(-4), num(4), num(0), num(-1)},
		{num(8), num(4), num(4), num(0), num(1)},
		{num(4), num(8), num(4), num(1), num(0)},
		{num(-4), num(8), num(4), num(1), num(1)},
		{num(5), num(1), num(1), num(0), num(1)},
		{num(5), num(-1), num(1), num(0), num(-1)},
		{num(1), num(5), num(1), num(1), num(0)},
		{num(-1), num(5), num(1), num(4), num(1)},
		{num(-1), num(2), num(1), num(1), num(1)},
		{minus(7, 0), plus(3, 0, 0), num(1), num(2), num(5)},
		{minus(0), minus(5, 0), num(5), num(0), num(-1)},
		{minus(5, 0), minus(0, 0), num(5), num(-1), num(0)},
		{plus(0, 1), plus(top), num(1), num(1), num(-1)},
		{plus(top), plus(0, 1), num(1), plus(top), minus(top - 1)},
		{minus(high), plus(top), num(1), plus(top - 2), plus(high - 1)},
		{num(1), minus(0, 0, 1), num(1), num(1), num(0)},
		{num(-1), minus(0, 0, 1), num(1), plus(top, top), num(-1)},
	} {
		holdExt(t, c.a, c.b, c.g, c.x, c.y)
	}
	for _, a := range check.Zeros() {
		for _, b := range check.Zeros() {
			holdExt(t, a, b, num(0), num(0), num(0))
		}
		holdExt(t, a, minus(9, 0), num(9), num(0), num(-1))
		holdExt(t, minus(9, 0), a, num(9), num(-1), num(0))
		holdExt(t, plus(9, 0), a, num(9), num(1), num(0))
	}
}

func holdExt(t *testing.T, a, b, g, x, y api.Int) {
	t.Helper()
	gotG, gotX, gotY := bezout.Ext(a, b)
	call := fmt.Sprintf("Ext(%v, %v)", a, b)
	check.Int(t, call+", g", gotG, g)
	check.Int(t, call+", x", gotX, x)
	check.Int(t, call+", y", gotY, y)
}

// P6.3.
func TestExtAll(t *testing.T) {
	for _, c := range []struct {
		list        []api.Int
		g           api.Int
		multipliers []api.Int
	}{
		{nil, num(0), nil},
		{nums(), num(0), nil},
		{nums(6, 10, 15), num(1), nums(16, -8, -1)},
		{nums(0, -4), num(4), nums(0, -1)},
		{nums(0, 0), num(0), nums(0, 0)},
		{nums(-3), num(3), nums(-1)},
		{nums(3), num(3), nums(1)},
		{nums(0), num(0), nums(0)},
		{nums(3, 0, 0), num(3), nums(1, 0, 0)},
		{nums(-3, 0), num(3), nums(-1, 0)},
		{nums(4, 4), num(4), nums(0, 1)},
		{nums(4, 6, -1), num(1), nums(0, 0, -1)},
		{nums(-15, 10, 6, 4), num(1), nums(-5, -5, -4, 0)},
		{[]api.Int{plus(6, 0), plus(10), minus(0), plus(15, 0, 0)}, num(1), nums(16, -8, 0, -1)},
		{[]api.Int{plus(0, 1), plus(top), num(5)}, num(1), nums(1, -1, 0)},
	} {
		g, multipliers := bezout.ExtAll(c.list)
		check.Int(t, fmt.Sprintf("ExtAll(%v), the divisor", c.list), g, c.g)
		check.Ints(t, fmt.Sprintf("ExtAll(%v)", c.list), multipliers, c.multipliers)
	}
}
