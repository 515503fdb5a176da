package bezout_test

import (
	"fmt"
	"testing"

	"trellis/api"
	"trellis/bezout"
	"trellis/check"
)

// P6.4.
func TestInverse(t *testing.T) {
	for _, c := range []struct {
		a, m, want api.Int
		e          api.Errno
	}{
		{num(3), num(7), num(5), api.OK},
		{num(-3), num(7), num(2), api.OK},
		{num(3), num(-7), num(5), api.OK},
		{num(-3), num(-7), num(2), api.OK},
		{num(10), num(7), num(5), api.OK},
		{num(1), num(7), num(1), api.OK},
		{num(-1), num(7), num(6), api.OK},
		{num(1), num(2), num(1), api.OK},
		{num(0), num(1), num(0), api.OK},
		{num(0), num(-1), num(0), api.OK},
		{num(9), num(1), num(0), api.OK},
		{num(-9), num(-1), num(0), api.OK},
		{minus(3, 0), plus(7, 0, 0), num(2), api.OK},
		{num(2), plus(top), plus(high), api.OK},
		{minus(2), plus(top, 0), plus(high - 1), api.OK},
		{num(3), minus(0, 1), plus(0xaaaaaaaaaaaaaaab), api.OK},
		{plus(top), plus(0, 1), plus(top), api.OK},
		{plus(0, 0, 1), plus(top), num(1), api.OK},
		{num(4), num(6), num(0), api.ErrNone},
		{num(-4), num(6), num(0), api.ErrNone},
		{num(0), num(5), num(0), api.ErrNone},
		{num(5), num(5), num(0), api.ErrNone},
		{num(0), num(-2), num(0), api.ErrNone},
		{minus(0), plus(2), num(0), api.ErrNone},
		{plus(0, 1), plus(high), num(0), api.ErrNone},
		{minus(0, 3), plus(0, 0, 0, 1), num(0), api.ErrNone},
	} {
		got, e := bezout.Inverse(c.a, c.m)
		call := fmt.Sprintf("Inverse(%v, %v)", c.a, c.m)
		check.Int(t, call, got, c.want)
		check.Same(t, call, e, c.e)
	}
}

// P6.4.
func TestPowMod(t *testing.T) {
	for _, c := range []struct {
		a, e, m, want api.Int
		err           api.Errno
	}{
		{num(2), num(10), num(1000), num(24), api.OK},
		{num(0), num(0), num(5), num(1), api.OK},
		{num(5), num(0), num(1), num(0), api.OK},
		{num(0), num(0), num(-1), num(0), api.OK},
		{num(5), num(3), num(1), num(0), api.OK},
		{num(-3), num(3), num(-5), num(3), api.OK},
		{num(-3), num(3), num(5), num(3), api.OK},
		{num(-3), num(2), num(5), num(4), api.OK},
		{num(-1), num(0), num(5), num(1), api.OK},
		{num(-1), num(1), num(5), num(4), api.OK},
		{num(0), num(7), num(5), num(0), api.OK},
		{num(10), num(1), num(7), num(3), api.OK},
		{num(1), plus(check.Repeat(top, 20)...), num(-9), num(1), api.OK},
		{num(-1), plus(check.Repeat(top, 20)...), num(9), num(8), api.OK},
		{num(-1), plus(0, 0, 1), num(9), num(1), api.OK},
		{num(2), plus(0, 1, 0), num(7), num(2), api.OK},
		{num(2), num(64), plus(1, 1), plus(0, 1), api.OK},
		{num(2), num(64), plus(0, 1), num(0), api.OK},
		{minus(2, 0), plus(63, 0), plus(0, 1, 0), plus(high), api.OK},
		{plus(0, 1), num(3), plus(0, 0, 0, 1), num(0), api.OK},
		{plus(5, 0), minus(0, 0), minus(7, 0), num(1), api.OK},
		{minus(0), minus(0), num(7), num(1), api.OK},
	} {
		got, err := bezout.PowMod(c.a, c.e, c.m)
		call := fmt.Sprintf("PowMod(%v, %v, %v)", c.a, c.e, c.m)
		check.Int(t, call, got, c.want)
		check.Same(t, call, err, c.err)
	}
}

// P6.4 and P6.5, and R2: a 0 in whatever form is no modulus, whatever else is handed in, but for a power below 0, which comes first.
func TestModulusZero(t *testing.T) {
	for _, zero := range check.Zeros() {
		for _, a := range append(check.Zeros(), nums(1, -1, 4)...) {
			got, e := bezout.Inverse(a, zero)
			holdRefusal(t, fmt.Sprintf("Inverse(%v, %v)", a, zero), e, api.ErrZero, got)
			for _, power := range append(check.Zeros(), nums(1, 9)...) {
				got, e = bezout.PowMod(a, power, zero)
				holdRefusal(t, fmt.Sprintf("PowMod(%v, %v, %v)", a, power, zero), e, api.ErrZero, got)
			}
			got, e = bezout.PowMod(a, minus(2, 0), zero)
			holdRefusal(t, fmt.Sprintf("PowMod(%v, -2, %v)", a, zero), e, api.ErrArg, got)
			for _, m := range append(check.Zeros(), nums(1, 6, -6)...) {
				r, l, e := bezout.Crt(a, m, num(1), zero)
				holdRefusal(t, fmt.Sprintf("Crt(%v, %v, 1, %v)", a, m, zero), e, api.ErrZero, r, l)
				r, l, e = bezout.Crt(num(1), zero, a, m)
				holdRefusal(t, fmt.Sprintf("Crt(1, %v, %v, %v)", zero, a, m), e, api.ErrZero, r, l)
			}
		}
		// The zero behind remainders that don't go together still is what is told.
		r, l, e := bezout.CrtAll(nums(1, 2, 3), []api.Int{num(4), num(6), zero})
		holdRefusal(t, fmt.Sprintf("CrtAll with the last modulus %v", zero), e, api.ErrZero, r, l)
		r, l, e = bezout.CrtAll(nums(1), []api.Int{zero})
		holdRefusal(t, fmt.Sprintf("CrtAll with the only modulus %v", zero), e, api.ErrZero, r, l)
		// Unlike lengths come first.
		r, l, e = bezout.CrtAll(nums(1), []api.Int{num(4), zero})
		holdRefusal(t, fmt.Sprintf("CrtAll of unlike lengths, with the last modulus %v", zero), e, api.ErrFit, r, l)
	}
}

// P6.4: a power below 0, whatever the modulus, where there is an inverse too.
func TestPowerBelowZero(t *testing.T) {
	for _, m := range append(check.Zeros(), nums(1, -1, 7, 6)...) {
		for _, power := range []api.Int{num(-1), num(-2), minus(1, 0), minus(0, 1), minus(high)} {
			got, e := bezout.PowMod(num(3), power, m)
			holdRefusal(t, fmt.Sprintf("PowMod(3, %v, %v)", power, m), e, api.ErrArg, got)
		}
	}
}

// holdRefusal asks for the error, and for 0 beside it.
func holdRefusal(t *testing.T, call string, e, want api.Errno, others ...api.Int) {
	t.Helper()
	check.Same(t, call, e, want)
	for _, other := range others {
		check.Int(t, call+", beside the error", other, num(0))
	}
}

// P6.5.
func TestCrt(t *testing.T) {
	for _, c := range []struct {
		r1, m1, r2, m2, r, m api.Int
		e                    api.Errno
	}{
		{num(1), num(4), num(3), num(-6), num(9), num(12), api.OK},
		{num(1), num(4), num(3), num(6), num(9), num(12), api.OK},
		{num(3), num(-6), num(1), num(-4), num(9), num(12), api.OK},
		{num(-3), num(4), num(27), num(6), num(9), num(12), api.OK},
		{num(7), num(1), num(-3), num(1), num(0), num(1), api.OK},
		{num(7), num(1), num(-3), num(5), num(2), num(5), api.OK},
		{num(-3), num(-5), num(7), num(1), num(2), num(5), api.OK},
		{num(2), num(3), num(3), num(5), num(8), num(15), api.OK},
		{num(-1), num(6), num(-1), num(6), num(5), num(6), api.OK},
		{num(1), num(6), num(7), num(6), num(1), num(6), api.OK},
		{num(1), num(2), num(5), num(8), num(5), num(8), api.OK},
		{num(0), num(4), num(0), num(6), num(0), num(12), api.OK},
		{minus(3, 0), plus(4, 0), plus(27, 0), minus(6, 0, 0), num(9), num(12), api.OK},
		{minus(0), plus(4), minus(0, 0), plus(6), num(0), num(12), api.OK},
		{num(-1), plus(0, 1), num(0), num(3), plus(top), plus(0, 3), api.OK},
		{num(-1), plus(0, 1), num(1), num(3), plus(top, 1), plus(0, 3), api.OK},
		{num(-1), plus(0, 1), plus(top), minus(0, 0, 1), plus(top), plus(0, 0, 1), api.OK},
		{num(1), num(4), num(2), num(6), num(0), num(0), api.ErrNone},
		{num(2), num(-6), num(1), num(4), num(0), num(0), api.ErrNone},
		{num(1), num(6), num(2), num(6), num(0), num(0), api.ErrNone},
		{num(0), plus(0, 1), num(1), minus(0, 1), num(0), num(0), api.ErrNone},
		{num(0), plus(0, 2), num(3), plus(0, 0, 1), num(0), num(0), api.ErrNone},
	} {
		r, m, e := bezout.Crt(c.r1, c.m1, c.r2, c.m2)
		call := fmt.Sprintf("Crt(%v, %v, %v, %v)", c.r1, c.m1, c.r2, c.m2)
		check.Int(t, call+", r", r, c.r)
		check.Int(t, call+", m", m, c.m)
		check.Same(t, call, e, c.e)
	}
}

// P6.5.
func TestCrtAll(t *testing.T) {
	for _, c := range []struct {
		rs, ms []api.Int
		r, m   api.Int
		e      api.Errno
	}{
		{nums(2, 3, 2), nums(3, 5, 7), num(23), num(105), api.OK},
		{nums(2, 3, 2), nums(-3, 5, -7), num(23), num(105), api.OK},
		{nums(1, 3), nums(4, 6), num(9), num(12), api.OK},
		{nums(-1), nums(5), num(4), num(5), api.OK},
		{nums(-1), nums(-5), num(4), num(5), api.OK},
		{nums(7), nums(1), num(0), num(1), api.OK},
		{nil, nil, num(0), num(1), api.OK},
		{nums(), nil, num(0), num(1), api.OK},
		{nums(-5, 15, 9), nums(6, 10, 14), num(205), num(210), api.OK},
		{nums(3, 3, 3, 3), nums(4, 4, 8, 2), num(3), num(8), api.OK},
		{[]api.Int{minus(1, 0), plus(0, 1)}, []api.Int{minus(5, 0), plus(3, 0, 0)}, num(4), num(15), api.OK},
		{nums(1, 2), nums(4, 6), num(0), num(0), api.ErrNone},
		{nums(1, 1, 0), nums(6, 10, 15), num(0), num(0), api.ErrNone},
		{nums(1, 2, 3, 3), nums(3, 5, 7, 9), num(0), num(0), api.ErrNone},
		{nums(1, 2, 1), nums(4, 6, 5), num(0), num(0), api.ErrNone},
		{nums(1), nil, num(0), num(0), api.ErrFit},
		{nil, nums(1), num(0), num(0), api.ErrFit},
		{nums(1, 2), nums(4, 6, 5), num(0), num(0), api.ErrFit},
		{nums(1, 2, 3), nums(4, 6), num(0), num(0), api.ErrFit},
		{nums(1, 0), nums(0, 2), num(0), num(0), api.ErrZero},
	} {
		r, m, e := bezout.CrtAll(c.rs, c.ms)
		call := fmt.Sprintf("CrtAll(%v, %v)", c.rs, c.ms)
		check.Int(t, call+", r", r, c.r)
		check.Int(t, call+", m", m, c.m)
		check.Same(t, call, e, c.e)
	}
}
