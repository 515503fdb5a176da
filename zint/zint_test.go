package zint_test

import (
	"cmp"
	"fmt"
	"math"
	"slices"
	"testing"

	"trellis/api"
	"trellis/check"
	"trellis/zint"
)

const (
	top  = check.Top
	high = check.High
)

type list = []uint64

// The integers of the tests.
var (
	num, nums   = check.Num, check.Nums
	plus, minus = check.Plus, check.Minus
	zeros       = check.Zeros
	signs       = check.Signs
)

// P5.1.
func TestLeast(t *testing.T) {
	for _, c := range []struct{ a, want api.Int }{
		{minus(5, 0), minus(5)},
		{plus(5, 0), plus(5)},
		{plus(5), plus(5)},
		{minus(5), minus(5)},
		{minus(0, 7), minus(0, 7)},
		{plus(0, 7, 0, 0), plus(0, 7)},
		{minus(top, top, 0), minus(top, top)},
		{api.Int{Neg: true, Mag: append(check.Repeat(top, 100), check.Repeat(0, 100)...)}, api.Int{Neg: true, Mag: check.Repeat(top, 100)}},
	} {
		check.Int(t, fmt.Sprintf("Least(%v)", c.a), zint.Least(c.a), c.want)
	}
	for _, zero := range zeros() {
		check.Int(t, fmt.Sprintf("Least(%v)", zero), zint.Least(zero), plus())
	}
}

// P5.1 and P5.2: there and back, for every int64 that stands at an edge.
func TestOfAndSmall(t *testing.T) {
	for _, c := range []struct {
		n int64
		a api.Int
	}{
		{0, plus()},
		{1, plus(1)},
		{-1, minus(1)},
		{42, plus(42)},
		{-7, minus(7)},
		{math.MaxInt32, plus(1<<31 - 1)},
		{math.MinInt32, minus(1 << 31)},
		{1 << 32, plus(1 << 32)},
		{-1 << 32, minus(1 << 32)},
		{1 << 62, plus(1 << 62)},
		{-1 << 62, minus(1 << 62)},
		{math.MaxInt64 - 1, plus(high - 2)},
		{math.MaxInt64, plus(high - 1)},
		{math.MinInt64 + 1, minus(high - 1)},
		{math.MinInt64, minus(high)},
	} {
		check.Int(t, fmt.Sprintf("Of(%d)", c.n), zint.Of(c.n), c.a)
		for _, tail := range []list{nil, {0}, {0, 0, 0}} {
			a := api.Int{Neg: c.a.Neg, Mag: slices.Concat(c.a.Mag, tail)}
			got, e := zint.Small(a)
			check.Same(t, fmt.Sprintf("Small(%v)", a), got, c.n)
			check.Same(t, fmt.Sprintf("Small(%v)", a), e, api.OK)
		}
	}
	for _, zero := range zeros() {
		got, e := zint.Small(zero)
		check.Same(t, fmt.Sprintf("Small(%v)", zero), got, 0)
		check.Same(t, fmt.Sprintf("Small(%v)", zero), e, api.OK)
	}
}

// P5.2.
func TestSmallOfLarge(t *testing.T) {
	for _, a := range []api.Int{
		plus(high), plus(high + 1), plus(top), plus(high, 0), minus(high + 1), minus(high+1, 0), minus(top),
		plus(0, 1), minus(0, 1), plus(5, 1), minus(5, 1), minus(high, 1), plus(0, 0, 1), minus(0, 0, 0, 1, 0), plus(check.Repeat(top, 50)...),
	} {
		got, e := zint.Small(a)
		check.Same(t, fmt.Sprintf("Small(%v)", a), got, 0)
		check.Same(t, fmt.Sprintf("Small(%v)", a), e, api.ErrLarge)
	}
}

// P5.3: of a list in rising order, each one against each one.
func TestOrder(t *testing.T) {
	rising := []api.Int{
		minus(0, 0, 1), minus(top, top, 0), minus(0, 1), minus(top), minus(high), minus(3, 0), minus(2), minus(1),
		plus(0), plus(1, 0, 0), plus(2), plus(3), plus(high), plus(top, 0), plus(0, 1), plus(top, top), plus(0, 0, 1, 0),
	}
	const zero = 8
	for i, a := range rising {
		check.Same(t, fmt.Sprintf("Sign(%v)", a), zint.Sign(a), cmp.Compare(i, zero))
		for j, b := range rising {
			check.Same(t, fmt.Sprintf("Cmp(%v, %v)", a, b), zint.Cmp(a, b), cmp.Compare(i, j))
			check.Same(t, fmt.Sprintf("CmpAbs(%v, %v)", a, b), zint.CmpAbs(a, b), cmp.Compare(size(i-zero), size(j-zero)))
		}
	}
}

// size is v's distance from 0.
func size(v int) int {
	return max(v, -v)
}

// P5.3: a sign beside 0 says nothing.
func TestOrderOfZeros(t *testing.T) {
	for _, a := range zeros() {
		check.Same(t, fmt.Sprintf("Sign(%v)", a), zint.Sign(a), 0)
		for _, b := range zeros() {
			check.Same(t, fmt.Sprintf("Cmp(%v, %v)", a, b), zint.Cmp(a, b), 0)
			check.Same(t, fmt.Sprintf("CmpAbs(%v, %v)", a, b), zint.CmpAbs(a, b), 0)
		}
		for _, b := range []api.Int{plus(1), plus(top, top)} {
			check.Same(t, fmt.Sprintf("Cmp(%v, %v)", a, b), zint.Cmp(a, b), -1)
			check.Same(t, fmt.Sprintf("Cmp(%v, %v)", b, a), zint.Cmp(b, a), 1)
			check.Same(t, fmt.Sprintf("Cmp(%v, -%v)", a, b), zint.Cmp(a, minus(b.Mag...)), 1)
			check.Same(t, fmt.Sprintf("Cmp(-%v, %v)", b, a), zint.Cmp(minus(b.Mag...), a), -1)
		}
	}
}

// P5.4 at the edges of a word.
func TestRing(t *testing.T) {
	for _, c := range []struct {
		call      string
		got, want api.Int
	}{
		{"Neg(5)", zint.Neg(plus(5, 0)), minus(5)},
		{"Neg(-5)", zint.Neg(minus(5)), plus(5)},
		{"Neg(-2^63)", zint.Neg(minus(high)), plus(high)},
		{"Abs(-5)", zint.Abs(minus(5, 0)), plus(5)},
		{"Abs(5)", zint.Abs(plus(5)), plus(5)},
		{"Abs(-2^63)", zint.Abs(minus(high)), plus(high)},
		{"2^64 - 1 plus 1", zint.Add(plus(top), plus(1)), plus(0, 1)},
		{"1 - 2^64 plus -1", zint.Add(minus(top), minus(1)), minus(0, 1)},
		{"2^64 plus -1", zint.Add(plus(0, 1), minus(1)), plus(top)},
		{"1 plus -2^64", zint.Add(plus(1), minus(0, 1)), minus(top)},
		{"-2^64 plus 2^64", zint.Add(minus(0, 1), plus(0, 1, 0)), plus()},
		{"2^63 - 1 plus 1", zint.Add(plus(high-1), plus(1)), plus(high)},
		{"3 less 3", zint.Sub(plus(3), plus(3, 0)), plus()},
		{"-3 less -3", zint.Sub(minus(3), minus(3)), plus()},
		{"0 less 2^64", zint.Sub(plus(), plus(0, 1)), minus(0, 1)},
		{"-2^63 less 1", zint.Sub(minus(high), plus(1)), minus(high + 1)},
		{"-1 less 2^64 - 1", zint.Sub(minus(1), plus(top)), minus(0, 1)},
		{"-3 times 0", zint.Mul(minus(3), plus(0)), plus()},
		{"-2^63 times -1", zint.Mul(minus(high), minus(1)), plus(high)},
		{"-2^63 times 2", zint.Mul(minus(high), plus(2)), minus(0, 1)},
		{"2^32 times 2^32", zint.Mul(plus(1<<32), plus(1<<32)), plus(0, 1)},
		{"1 - 2^64 squared", zint.Mul(minus(top), minus(top, 0)), plus(1, top-1)},
		{"-3 times 4, plus 5", zint.MulAdd(num(-3), num(4), num(5)), num(-7)},
		{"-3 times 4, plus 12", zint.MulAdd(num(-3), num(4), num(12)), num(0)},
		{"1 - 2^64 squared, plus 2^65 - 2", zint.MulAdd(minus(top), minus(top), plus(top-1, 1)), plus(top, top)},
		{"1 - 2^64 squared, less 1", zint.MulAdd(minus(top), minus(top), minus(1)), plus(0, top-1)},
		{"2^64 times -2^64, less 1", zint.MulAdd(plus(0, 1), minus(0, 1), minus(1)), minus(1, 0, 1)},
	} {
		check.Int(t, c.call, c.got, c.want)
	}
}

// P5.4: a 0 has no sign, whatever it was made of.
func TestRingOfZeros(t *testing.T) {
	for _, a := range zeros() {
		check.Int(t, fmt.Sprintf("Neg(%v)", a), zint.Neg(a), plus())
		check.Int(t, fmt.Sprintf("Abs(%v)", a), zint.Abs(a), plus())
		for _, b := range zeros() {
			check.Int(t, fmt.Sprintf("Add(%v, %v)", a, b), zint.Add(a, b), plus())
			check.Int(t, fmt.Sprintf("Sub(%v, %v)", a, b), zint.Sub(a, b), plus())
			check.Int(t, fmt.Sprintf("Mul(%v, %v)", a, b), zint.Mul(a, b), plus())
			check.Int(t, fmt.Sprintf("MulAdd(%v, -9, %v)", a, b), zint.MulAdd(a, num(-9), b), plus())
			check.Int(t, fmt.Sprintf("MulAdd(%v, 9, %v)", a, b), zint.MulAdd(a, num(9), b), plus())
			check.Int(t, fmt.Sprintf("MulAdd(%v, %v, -9)", a, b), zint.MulAdd(a, b, num(-9)), num(-9))
			check.Int(t, fmt.Sprintf("Sum(%v, %v)", a, b), zint.Sum(a, b), plus())
		}
		check.Int(t, fmt.Sprintf("Sum(%v)", a), zint.Sum(a), plus())
	}
}

// P5.5.
func TestSum(t *testing.T) {
	check.Int(t, "Sum()", zint.Sum(), plus())
	check.Int(t, "Sum of an empty list", zint.Sum([]api.Int{}...), plus())
	check.Int(t, "Sum(-5)", zint.Sum(minus(5, 0)), num(-5))
	check.Int(t, "Sum(1, -2, 3)", zint.Sum(nums(1, -2, 3)...), num(2))
	check.Int(t, "Sum(1, -2, 1)", zint.Sum(nums(1, -2, 1)...), num(0))
	check.Int(t, "Sum of three times 2^64 - 1", zint.Sum(plus(top), plus(top), plus(top)), plus(top-2, 2))
	check.Int(t, "Sum(2^64, -1, -2^64)", zint.Sum(plus(0, 1), minus(1), minus(0, 1, 0)), num(-1))
	var all []api.Int
	total := 0
	for i := range 300 {
		v := (i*i - 20000) * (i%3 - 1)
		all = append(all, num(v))
		total += v
		check.Int(t, fmt.Sprintf("Sum of %d numbers", len(all)), zint.Sum(all...), num(total))
	}
}

// P5.5.
func TestDot(t *testing.T) {
	for _, c := range []struct {
		a, b []api.Int
		want api.Int
		e    api.Errno
	}{
		{nums(1, 2), nums(3, -4), num(-5), api.OK},
		{nil, nil, plus(), api.OK},
		{[]api.Int{}, nil, plus(), api.OK},
		{nums(-3), nums(7), num(-21), api.OK},
		{nums(2, 3), nums(3, -2), plus(), api.OK},
		{nums(0, 0, 0), nums(-1, -2, -3), plus(), api.OK},
		{nums(1, -2, 3, -4), nums(5, 6, -7, 8), num(5 - 12 - 21 - 32), api.OK},
		{[]api.Int{plus(top), minus(top, 0), plus(1)}, []api.Int{plus(top), plus(top), minus(0, 1)}, minus(0, 1), api.OK},
		{[]api.Int{plus(top), minus(top)}, []api.Int{plus(top), minus(top)}, plus(2, top-3, 1), api.OK},
		{nums(1), nil, plus(), api.ErrFit},
		{nil, nums(1), plus(), api.ErrFit},
		{nums(0), nil, plus(), api.ErrFit},
		{nums(1, 2, 3), nums(1, 2), plus(), api.ErrFit},
		{nums(1, 2), nums(1, 2, 0), plus(), api.ErrFit},
	} {
		got, e := zint.Dot(c.a, c.b)
		check.Int(t, fmt.Sprintf("Dot(%v, %v)", c.a, c.b), got, c.want)
		check.Same(t, fmt.Sprintf("Dot(%v, %v)", c.a, c.b), e, c.e)
	}
	var a, b []api.Int
	total := 0
	for i := range 100 {
		v, w := i*7%31-15, i*5%23-11
		a, b = append(a, num(v)), append(b, num(w))
		total += v * w
		got, e := zint.Dot(a, b)
		check.Int(t, fmt.Sprintf("Dot of %d numbers", len(a)), got, num(total))
		check.Same(t, fmt.Sprintf("Dot of %d numbers", len(a)), e, api.OK)
	}
}

// P5.6.
func TestPow(t *testing.T) {
	for _, c := range []struct {
		a    api.Int
		n    int
		want api.Int
	}{
		{num(-2), 3, num(-8)},
		{num(-2), 4, num(16)},
		{num(2), 3, num(8)},
		{minus(3, 0), 1, num(-3)},
		{minus(3, 0), 0, num(1)},
		{plus(3), 0, num(1)},
		{plus(), 1, plus()},
		{minus(0), 1, plus()},
		{minus(0), 3, plus()},
		{plus(0), 256, plus()},
		{num(1), 256, num(1)},
		{num(-1), 255, num(-1)},
		{num(-1), 256, num(1)},
		{minus(0, 1), 3, minus(0, 0, 0, 1)},
		{minus(top), 2, plus(1, top-1)},
		{num(-2), 255, minus(0, 0, 0, high)},
		{num(-2), 256, plus(0, 0, 0, 0, 1)},
		{minus(0, 1, 0), 255, minus(append(check.Repeat(0, 255), 1)...)},
		{minus(0, 1, 0), 256, plus(append(check.Repeat(0, 256), 1)...)},
	} {
		got, e := zint.Pow(c.a, c.n)
		check.Int(t, fmt.Sprintf("Pow(%v, %d)", c.a, c.n), got, c.want)
		check.Same(t, fmt.Sprintf("Pow(%v, %d)", c.a, c.n), e, api.OK)
	}
	for _, zero := range zeros() {
		got, e := zint.Pow(zero, 0)
		check.Int(t, fmt.Sprintf("Pow(%v, 0)", zero), got, num(1))
		check.Same(t, fmt.Sprintf("Pow(%v, 0)", zero), e, api.OK)
	}
}

// P5.6: which exponents are refused does not hang on a.
func TestPowOfWrongExponents(t *testing.T) {
	for _, a := range append(zeros(), nums(1, -1, 2, -5)...) {
		for _, c := range []struct {
			n int
			e api.Errno
		}{
			{-1, api.ErrArg}, {-2, api.ErrArg}, {-257, api.ErrArg}, {math.MinInt, api.ErrArg},
			{257, api.ErrLarge}, {258, api.ErrLarge}, {1 << 32, api.ErrLarge}, {math.MaxInt, api.ErrLarge},
		} {
			got, e := zint.Pow(a, c.n)
			check.Int(t, fmt.Sprintf("Pow(%v, %d)", a, c.n), got, plus())
			check.Same(t, fmt.Sprintf("Pow(%v, %d)", a, c.n), e, c.e)
		}
	}
}
