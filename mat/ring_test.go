package mat_test

import (
	"fmt"
	"math"
	"testing"

	"trellis/api"
	"trellis/check"
	"trellis/mat"
)

// P9.3.
func TestAddAndSub(t *testing.T) {
	for _, c := range []struct{ a, b, sum, difference api.Mat }{
		{mx("1 2; 3 4"), mx("0 1; 1 0"), mx("1 3; 4 4"), mx("1 1; 2 4")},
		{mx("1 2"), mx("1 2"), mx("2 4"), mx("0 0")},
		{mx("1 -2 3"), mx("-1 2 5"), mx("0 0 8"), mx("2 -4 -2")},
		{mx("1; 2; 3"), mx("4; 5; 6"), mx("5; 7; 9"), mx("-3; -3; -3")},
		{mx("0x0"), mx("0x0"), mx("0x0"), mx("0x0")},
		{mx("0x3"), mx("0x3"), mx("0x3"), mx("0x3")},
		{mx("3x0"), of(3, 0, nums()...), mx("3x0"), mx("3x0")},
		{of(1, 2, minus(0), plus(3, 0)), of(1, 2, plus(0, 0), minus(3, 0, 0)), mx("0 0"), mx("0 6")},
		{of(1, 2, plus(top), minus(high)), of(1, 2, plus(1), minus(high)), of(1, 2, plus(0, 1), minus(0, 1)), of(1, 2, plus(top-1), num(0))},
		{of(1, 1, plus(0, 0, 1)), of(1, 1, num(1)), of(1, 1, plus(1, 0, 1)), of(1, 1, plus(top, top))},
		{full(64, 64, num(3)), full(64, 64, num(-4)), full(64, 64, num(-1)), full(64, 64, num(7))},
	} {
		got, e := mat.Add(c.a, c.b)
		hold(t, fmt.Sprintf("Add(%v, %v)", c.a, c.b), got, e, c.sum)
		got, e = mat.Sub(c.a, c.b)
		hold(t, fmt.Sprintf("Sub(%v, %v)", c.a, c.b), got, e, c.difference)
	}
}

// P9.3: shapes that are unlike have neither sum nor difference.
func TestUnlikeShapes(t *testing.T) {
	unlike := []api.Mat{mx("0x0"), mx("0x2"), mx("2x0"), mx("0x3"), mx("1"), mx("1 2"), mx("1; 2"), mx("1 2; 3 4"), mx("1 2 3 4"), mx("1; 2; 3; 4"), mx("1 2 3; 4 5 6"), mx("1 2; 3 4; 5 6"), full(64, 64, num(1))}
	for i, a := range unlike {
		for j, b := range unlike {
			if i == j {
				continue
			}
			got, e := mat.Add(a, b)
			holdRefusal(t, fmt.Sprintf("Add(%v, %v)", a, b), got, e, api.ErrFit)
			got, e = mat.Sub(a, b)
			holdRefusal(t, fmt.Sprintf("Sub(%v, %v)", a, b), got, e, api.ErrFit)
		}
	}
}

// P9.3.
func TestScale(t *testing.T) {
	for _, c := range []struct {
		k       api.Int
		a, want api.Mat
	}{
		{num(-3), mx("1 0; -2 5"), mx("-3 0; 6 -15")},
		{num(1), mx("1 0; -2 5"), mx("1 0; -2 5")},
		{num(0), mx("1 0; -2 5"), mx("0 0; 0 0")},
		{minus(0, 0), mx("-1 2"), mx("0 0")},
		{plus(1, 0), of(1, 3, minus(0), minus(5, 0), plus(0, 2, 0)), of(1, 3, num(0), num(-5), plus(0, 2))},
		{num(2), mx("0x0"), mx("0x0")},
		{num(2), mx("0x3"), mx("0x3")},
		{num(2), mx("3x0"), mx("3x0")},
		{plus(top), of(1, 2, plus(top), num(-1)), of(1, 2, plus(1, top-1), minus(top))},
		{minus(0, 1), full(64, 64, minus(0, 1)), full(64, 64, plus(0, 0, 1))},
	} {
		got, e := mat.Scale(c.k, c.a)
		hold(t, fmt.Sprintf("Scale(%v, %v)", c.k, c.a), got, e, c.want)
	}
}

// P9.3.
func TestMul(t *testing.T) {
	for _, c := range []struct{ a, b, want api.Mat }{
		{mx("1 2; 3 4"), mx("0 1; 1 0"), mx("2 1; 4 3")},
		{mx("0 1; 1 0"), mx("1 2; 3 4"), mx("3 4; 1 2")},
		{mx("1 2 3"), mx("4; 5; 6"), mx("32")},
		{mx("4; 5; 6"), mx("1 2 3"), mx("4 8 12; 5 10 15; 6 12 18")},
		{mx("1 2 3; 4 5 6"), mx("1 0; -1 2; 3 -2"), mx("8 -2; 17 -2")},
		{mx("1 0; -1 2; 3 -2"), mx("1 2 3; 4 5 6"), mx("1 2 3; 7 8 9; -5 -4 -3")},
		{mx("2x0"), mx("0x2"), mx("0 0; 0 0")},
		{mx("2x0"), mx("0x3"), mx("0 0 0; 0 0 0")},
		{mx("64x0"), mx("0x64"), full(64, 64, num(0))},
		{mx("0x2"), mx("2x0"), mx("0x0")},
		{mx("0x2"), mx("1 2 3; 4 5 6"), mx("0x3")},
		{mx("1 2 3; 4 5 6"), mx("3x0"), mx("2x0")},
		{mx("0x0"), mx("0x3"), mx("0x3")},
		{mx("3x0"), mx("0x0"), mx("3x0")},
		{mx("0x0"), mx("0x0"), mx("0x0")},
		{of(1, 2, minus(2, 0), minus(0)), of(2, 1, plus(3, 0, 0), plus(5)), mx("-6")},
		{of(1, 2, plus(top), plus(top)), of(2, 1, plus(top), minus(top)), mx("0")},
		{of(1, 2, plus(top), plus(top)), of(2, 1, plus(top), plus(top)), of(1, 1, plus(2, top-3, 1))},
		{full(64, 64, num(1)), full(64, 64, num(-1)), full(64, 64, num(-64))},
		{full(64, 64, plus(0, 1)), full(64, 64, plus(0, 1)), full(64, 64, plus(0, 0, 64))},
		{full(1, 64, num(2)), full(64, 1, num(3)), mx("384")},
	} {
		got, e := mat.Mul(c.a, c.b)
		hold(t, fmt.Sprintf("Mul(%v, %v)", c.a, c.b), got, e, c.want)
	}
	for _, c := range []struct{ a, b api.Mat }{
		{mx("1 2"), mx("1 2")}, {mx("1; 2"), mx("1; 2")}, {mx("1 2; 3 4"), mx("1 2")}, {mx("1 2; 3 4"), mx("1; 2; 3")}, {mx("0x2"), mx("0x2")}, {mx("2x0"), mx("2x0")},
		{mx("0x0"), mx("1")}, {mx("1"), mx("0x0")}, {mx("0x2"), mx("1 2 3 4")}, {mx("2x0"), mx("1")}, {full(64, 64, num(1)), full(63, 64, num(1))},
	} {
		got, e := mat.Mul(c.a, c.b)
		holdRefusal(t, fmt.Sprintf("Mul(%v, %v)", c.a, c.b), got, e, api.ErrFit)
	}
}

// P9.3.
func TestVecMul(t *testing.T) {
	for _, c := range []struct {
		x    []api.Int
		a    api.Mat
		want []api.Int
	}{
		{nums(1, -1), mx("1 2; 3 4"), nums(-2, -2)},
		{nums(2, 3), mx("1 2 3; 4 5 6"), nums(14, 19, 24)},
		{nums(2, 3, 4), mx("1 2; 3 4; 5 6"), nums(31, 40)},
		{nums(5), mx("1 -2 3"), nums(5, -10, 15)},
		{nums(1, 2, 3), mx("4; 5; 6"), nums(32)},
		{nil, mx("0x2"), nums(0, 0)},
		{nums(), mx("0x64"), make([]api.Int, 64)},
		{nil, mx("0x0"), nil},
		{nums(1, 2), mx("2x0"), nil},
		{nums(0, 0), mx("1 2; 3 4"), nums(0, 0)},
		{[]api.Int{minus(0, 0), minus(1, 0)}, of(2, 2, num(7), minus(0), plus(3, 0), num(-4)), nums(-3, 4)},
		{[]api.Int{plus(top), plus(top)}, of(2, 2, plus(top), num(1), minus(top), num(1)), []api.Int{num(0), plus(top-1, 1)}},
		{full(1, 64, num(2)).At, full(64, 64, num(3)), full(1, 64, num(384)).At},
	} {
		got, e := mat.VecMul(c.x, c.a)
		check.Same(t, fmt.Sprintf("VecMul(%v, %v)", c.x, c.a), e, api.OK)
		check.Ints(t, fmt.Sprintf("VecMul(%v, %v)", c.x, c.a), got, c.want)
	}
	for _, c := range []struct {
		x []api.Int
		a api.Mat
	}{
		{nums(1), mx("1 2; 3 4")}, {nums(1, 2, 3), mx("1 2; 3 4")}, {nums(1, 2, 3), mx("1 2 3; 4 5 6")}, {nil, mx("1")}, {nums(1), mx("0x2")}, {nums(1, 2), mx("0x2")}, {nums(1), mx("0x0")},
		{nil, mx("2x0")}, {nums(1, 2, 3), mx("2x0")}, {make([]api.Int, 65), full(64, 64, num(1))},
	} {
		got, e := mat.VecMul(c.x, c.a)
		check.Same(t, fmt.Sprintf("VecMul(%v, %v)", c.x, c.a), e, api.ErrFit)
		check.Ints(t, fmt.Sprintf("VecMul(%v, %v), beside the error", c.x, c.a), got, nil)
	}
}

// P9.3.
func TestPow(t *testing.T) {
	around := full(64, 64, num(0))
	for i := range 64 {
		around.At[64*i+(i+1)%64] = num(1)
	}
	unit, _ := mat.Unit(64)
	for _, c := range []struct {
		a    api.Mat
		n    int
		want api.Mat
	}{
		{mx("1 1; 0 1"), 5, mx("1 5; 0 1")},
		{mx("1 1; 0 1"), 255, mx("1 255; 0 1")},
		{mx("1 1; 0 1"), 256, mx("1 256; 0 1")},
		{mx("1 1; 1 0"), 10, mx("89 55; 55 34")},
		{mx("1 2; 3 4"), 0, mx("1 0; 0 1")},
		{mx("1 2; 3 4"), 1, mx("1 2; 3 4")},
		{mx("1 2; 3 4"), 2, mx("7 10; 15 22")},
		{mx("1 2; 3 4"), 3, mx("37 54; 81 118")},
		{mx("0 1; -1 0"), 3, mx("0 -1; 1 0")},
		{mx("0 1 0; 0 0 1; 0 0 0"), 2, mx("0 0 1; 0 0 0; 0 0 0")},
		{mx("0 1 0; 0 0 1; 0 0 0"), 3, mx("0 0 0; 0 0 0; 0 0 0")},
		{mx("0"), 0, mx("1")},
		{mx("0"), 1, mx("0")},
		{mx("0"), 256, mx("0")},
		{mx("0 0; 0 0"), 0, mx("1 0; 0 1")},
		{mx("-1"), 255, mx("-1")},
		{mx("-1"), 256, mx("1")},
		{mx("2"), 256, of(1, 1, plus(0, 0, 0, 0, 1))},
		{mx("-2"), 63, of(1, 1, minus(high))},
		{mx("0x0"), 0, mx("0x0")},
		{mx("0x0"), 1, mx("0x0")},
		{mx("0x0"), 256, mx("0x0")},
		{of(2, 2, minus(0), plus(1, 0), plus(2, 0, 0), minus()), 1, mx("0 1; 2 0")},
		{of(2, 2, minus(0), plus(1, 0), plus(2, 0, 0), minus()), 2, mx("2 0; 0 2")},
		{around, 0, unit},
		{around, 1, around},
		{around, 65, around},
		{around, 256, unit},
	} {
		got, e := mat.Pow(c.a, c.n)
		hold(t, fmt.Sprintf("Pow(%v, %d)", c.a, c.n), got, e, c.want)
	}
}

// P9.3: what is not square is refused ahead of the exponent.
func TestPowFaults(t *testing.T) {
	for _, n := range []int{math.MinInt, -1, 0, 1, 2, 256, 257, math.MaxInt} {
		for _, a := range []api.Mat{mx("1 2"), mx("1; 2"), mx("0x1"), mx("1x0"), mx("1 2 3; 4 5 6"), full(64, 63, num(1))} {
			got, e := mat.Pow(a, n)
			holdRefusal(t, fmt.Sprintf("Pow(%v, %d)", a, n), got, e, api.ErrFit)
		}
	}
	for _, a := range []api.Mat{mx("0x0"), mx("0"), mx("1"), mx("1 2; 3 4"), full(64, 64, num(0))} {
		for n, want := range map[int]api.Errno{math.MinInt: api.ErrArg, -257: api.ErrArg, -1: api.ErrArg, 257: api.ErrLarge, 512: api.ErrLarge, math.MaxInt: api.ErrLarge} {
			got, e := mat.Pow(a, n)
			holdRefusal(t, fmt.Sprintf("Pow(%v, %d)", a, n), got, e, want)
		}
	}
}

// P9.3.
func TestTurn(t *testing.T) {
	for _, c := range []struct{ a, want api.Mat }{
		{mx("1 2 3; 4 5 6"), mx("1 4; 2 5; 3 6")},
		{mx("1 2; 3 4"), mx("1 3; 2 4")},
		{mx("1 2 3"), mx("1; 2; 3")},
		{mx("1; 2; 3"), mx("1 2 3")},
		{mx("-7"), mx("-7")},
		{mx("0x3"), mx("3x0")},
		{mx("3x0"), mx("0x3")},
		{mx("0x64"), mx("64x0")},
		{mx("0x0"), mx("0x0")},
		{of(1, 3, minus(0), plus(5, 0), minus(0, 1, 0)), of(3, 1, num(0), num(5), minus(0, 1))},
		{full(64, 3, num(4)), full(3, 64, num(4))},
	} {
		got, e := mat.Turn(c.a)
		hold(t, fmt.Sprintf("Turn(%v)", c.a), got, e, c.want)
	}
}

// P9.3.
func TestTrace(t *testing.T) {
	for _, c := range []struct {
		a    api.Mat
		want api.Int
	}{
		{mx("1 2; 3 4"), num(5)},
		{mx("1 2 3; 4 -5 6; 7 8 -9"), num(-13)},
		{mx("3 8; 9 -3"), num(0)},
		{mx("-7"), num(-7)},
		{mx("0x0"), num(0)},
		{of(1, 1, minus(0, 0)), num(0)},
		{of(1, 1, plus(6, 0)), num(6)},
		{of(2, 2, plus(top), num(9), num(9), plus(top)), plus(top-1, 1)},
		{of(2, 2, plus(0, 1), num(9), num(9), num(-1)), plus(top)},
		{full(64, 64, plus(0, high)), plus(0, 0, 32)},
	} {
		got, e := mat.Trace(c.a)
		check.Same(t, fmt.Sprintf("Trace(%v)", c.a), e, api.OK)
		check.Int(t, fmt.Sprintf("Trace(%v)", c.a), got, c.want)
	}
	for _, a := range []api.Mat{mx("1 2"), mx("1; 2"), mx("0x1"), mx("1x0"), mx("1 2 3; 4 5 6"), full(64, 63, num(1))} {
		got, e := mat.Trace(a)
		check.Same(t, fmt.Sprintf("Trace(%v)", a), e, api.ErrFit)
		check.Int(t, fmt.Sprintf("Trace(%v), beside the error", a), got, num(0))
	}
}
