package approx_test

import (
	"fmt"
	"math"
	"slices"
	"testing"

	"trellis/api"
	"trellis/approx"
	"trellis/check"
	"trellis/zint"
)

const (
	top   = check.Top
	high  = check.High
	least = math.SmallestNonzeroFloat64
	most  = math.MaxFloat64
	// topPower is the power of 2 from which on all is infinite.
	topPower = 1024
)

type list = []uint64

// The integers of the tests.
var (
	num         = check.Num
	plus, minus = check.Plus, check.Minus
	sum         = zint.Sum
)

// zeroBelow is the zero with a sign.
func zeroBelow() float64 { return math.Copysign(0, -1) }

// two is 2^n.
func two(n int) api.Int {
	size := make(list, n/64+1)
	size[n/64] = 1 << (n % 64)
	return plus(size...)
}

// float holds the float64 that a call answers against the one that it must answer, bit by bit: so a zero's sign counts.
func float(t *testing.T, call string, got, want float64) {
	t.Helper()
	if math.Float64bits(got) != math.Float64bits(want) {
		t.Errorf("%s: %v (%#x), want %v (%#x)", call, got, math.Float64bits(got), want, math.Float64bits(want))
	}
}

// holdNear asks for the answer to a, and to minus a.
func holdNear(t *testing.T, a api.Int, want float64) {
	t.Helper()
	float(t, fmt.Sprintf("Near(%v)", a), approx.Near(a), want)
	if want != 0 {
		float(t, fmt.Sprintf("Near of minus %v", a), approx.Near(zint.Neg(a)), -want)
	}
}

// P7.1.
func TestNear(t *testing.T) {
	for _, c := range []struct {
		a    api.Int
		want float64
	}{
		{num(9007199254740993), 9007199254740992},
		{num(9007199254740995), 9007199254740996},
		{num(-3), -3},
		{num(1), 1},
		{num(2), 2},
		{num(7), 7},
		{plus(7, 0, 0), 7},
		{minus(7, 0), -7},
		{num(1<<53 - 1), 1<<53 - 1},
		{num(1 << 53), 1 << 53},
		{num(1<<53 + 2), 1<<53 + 2},
		{num(1<<54 - 1), 1 << 54},
		{num(1<<54 - 2), 1<<54 - 2},
		{num(1<<54 + 1), 1 << 54},
		{num(1<<54 + 2), 1 << 54},
		{num(1<<54 + 3), 1<<54 + 4},
		{num(1<<54 + 5), 1<<54 + 4},
		{num(1<<54 + 6), 1<<54 + 8},
		{plus(high), 0x1p63},
		{plus(high + 1<<10), 0x1p63},
		{plus(high + 1<<10 + 1), 0x1.0000000000001p63},
		{plus(high + 3<<10), 0x1.0000000000002p63},
		{plus(high + 3<<10 - 1), 0x1.0000000000001p63},
		{plus(top), 0x1p64},
		{plus(top - 1<<10), 0x1.fffffffffffffp63},
		{plus(top - 1<<10 + 1), 0x1p64},
		{plus(0, 1), 0x1p64},
		{plus(1, 1), 0x1p64},
		{plus(1<<11, 1), 0x1p64},
		{plus(1<<11+1, 1), 0x1.0000000000001p64},
		{plus(0, 0, 1), 0x1p128},
		{plus(top, top), 0x1p128},
		{plus(top, top, 0), 0x1p128},
		// What decides stands in the lowest place of all.
		{sum(two(1000), two(947)), 0x1p1000},
		{sum(two(1000), two(947), num(1)), 0x1.0000000000001p1000},
		{sum(two(1000), two(947), num(-1)), 0x1p1000},
		{sum(two(1000), two(948), two(947), num(-1)), 0x1.0000000000001p1000},
		{sum(two(1000), two(948), two(947)), 0x1.0000000000002p1000},
	} {
		holdNear(t, c.a, c.want)
	}
	for _, zero := range check.Zeros() {
		float(t, fmt.Sprintf("Near(%v)", zero), approx.Near(zero), 0)
	}
	for n := range topPower {
		holdNear(t, two(n), math.Ldexp(1, n))
	}
}

// P7.1: where the infinity begins.
func TestNearInfinity(t *testing.T) {
	limit := zint.Sub(two(topPower), two(970))
	for _, c := range []struct {
		a    api.Int
		want float64
	}{
		{sum(limit, num(-1)), most},
		{zint.Sub(two(topPower), two(971)), most},
		{sum(two(topPower), zint.Neg(two(971)), num(-1)), most},
		{sum(two(topPower), zint.Neg(two(971)), num(1)), most},
		{zint.Sub(two(topPower), two(972)), 0x1.ffffffffffffep1023},
		{limit, math.Inf(1)},
		{sum(limit, num(1)), math.Inf(1)},
		{sum(two(topPower), num(-1)), math.Inf(1)},
		{two(topPower), math.Inf(1)},
		{two(topPower + 1), math.Inf(1)},
		{two(2000), math.Inf(1)},
		{two(1 << 22), math.Inf(1)},
	} {
		holdNear(t, c.a, c.want)
	}
}

// holdRatio asks for the answer with each pair of signs.
func holdRatio(t *testing.T, a, b api.Int, want float64) {
	t.Helper()
	below := -want
	if want == 0 {
		below = 0
	}
	for _, c := range []struct {
		a, b api.Int
		want float64
	}{{a, b, want}, {zint.Neg(a), zint.Neg(b), want}, {zint.Neg(a), b, below}, {a, zint.Neg(b), below}} {
		got, e := approx.Ratio(c.a, c.b)
		float(t, fmt.Sprintf("Ratio(%v, %v)", c.a, c.b), got, c.want)
		check.Same(t, fmt.Sprintf("Ratio(%v, %v)", c.a, c.b), e, api.OK)
	}
}

// P7.2.
func TestRatio(t *testing.T) {
	for _, c := range []struct {
		a, b api.Int
		want float64
	}{
		{num(1), num(3), math.Float64frombits(0x3fd5555555555555)},
		{num(2), num(3), math.Float64frombits(0x3fe5555555555555)},
		{num(1), num(1), 1},
		{num(7), num(2), 3.5},
		{num(-7), num(2), -3.5},
		{num(1), num(10), 0.1},
		{num(355), num(113), 355.0 / 113},
		{plus(7, 0, 0), minus(2, 0), -3.5},
		{plus(0, 1), plus(0, 0, 4, 0), 0x1p-66},
		{num(9007199254740993), num(1), 9007199254740992},
		{num(9007199254740993), num(9007199254740993), 1},
		{num(9007199254740993), num(3), 3002399751580331},
		// The quotient is midway, and a rest far behind is left or not.
		{sum(two(200), two(147)), num(1), 0x1p200},
		{sum(two(200), two(147), num(1)), num(3), 0x1.5555555555556p198},
		{num(1<<53 + 1), two(53), 1},
		{num(1<<53 + 3), two(53), 0x1.0000000000002p0},
		{sum(zint.Mul(two(147), num(1<<53+1)), num(1)), two(200), 0x1.0000000000001p0},
		{sum(zint.Mul(two(147), num(1<<53+1)), num(-1)), two(200), 1},
		{zint.Mul(num(1<<53+1), num(7)), num(7), 0x1p53},
		{sum(zint.Mul(num(1<<53+1), num(7)), num(1)), num(7), 0x1.0000000000001p53},
		{sum(zint.Mul(num(1<<53+1), num(7)), num(-1)), num(7), 0x1p53},
		{num(1<<54 - 1), two(54), 1},
		{num(1<<54 - 1), num(2), 0x1p53},
	} {
		holdRatio(t, c.a, c.b, c.want)
	}
	for _, zero := range check.Zeros() {
		for _, b := range []api.Int{num(5), minus(5, 0), plus(top, top), two(5000)} {
			holdRatio(t, zero, b, 0)
		}
		for _, a := range append(check.Zeros(), num(1), minus(top, 3, 0)) {
			got, e := approx.Ratio(a, zero)
			float(t, fmt.Sprintf("Ratio(%v, %v)", a, zero), got, 0)
			check.Same(t, fmt.Sprintf("Ratio(%v, %v)", a, zero), e, api.ErrZero)
		}
	}
}

// P7.2: below 2^-1022, and where nothing is left.
func TestRatioLeast(t *testing.T) {
	for _, c := range []struct {
		a, b api.Int
		want float64
	}{
		{num(1), two(1074), least},
		{num(1), two(1075), 0},
		{num(1), two(1076), 0},
		{num(1), two(1077), 0},
		{num(3), two(1076), least},
		{num(3), two(1077), 0},
		{num(3), two(1075), 2 * least},
		{num(5), two(1075), 2 * least},
		{num(7), two(1075), 4 * least},
		{num(5), two(1076), least},
		{num(7), two(1076), 2 * least},
		{sum(two(100), num(1)), two(1175), least},
		{sum(two(100), num(-1)), two(1175), 0},
		{two(100), two(1175), 0},
		{num(1), sum(two(1075), num(-1)), least},
		{num(1), sum(two(1075), num(1)), 0},
		{num(1), sum(two(1074), num(1)), least},
		{num(2), zint.Mul(two(1074), num(3)), least},
		{num(1), zint.Mul(two(1074), num(3)), 0},
		{num(1), two(1022), 0x1p-1022},
		{num(1<<52 - 1), two(1074), 0x1p-1022 - least},
		{num(1<<53 - 1), two(1075), 0x1p-1022},
		{num(1<<53 - 3), two(1075), 0x1p-1022 - 2*least},
		{num(1<<53 + 1), two(1075), 0x1p-1022},
		{num(1<<53 + 3), two(1075), 0x1p-1022 + 2*least},
		{num(1<<53 - 1), two(1074), 0x1p-1021 - least},
		{num(1<<54 - 1), two(1075), 0x1p-1021},
	} {
		holdRatio(t, c.a, c.b, c.want)
	}
}

// P7.2: for numbers that are far longer than any float64, and further apart than a shift may be long.
func TestRatioOfLongNumbers(t *testing.T) {
	long := 3 << 20
	limit := zint.Mul(zint.Sub(two(topPower), two(970)), two(100))
	for _, c := range []struct {
		a, b api.Int
		want float64
	}{
		{limit, two(100), math.Inf(1)},
		{sum(limit, num(-1)), two(100), most},
		{sum(limit, num(1)), two(100), math.Inf(1)},
		{two(1123), two(100), 0x1p1023},
		{sum(two(1124), num(-1)), two(100), math.Inf(1)},
		{two(1124), two(100), math.Inf(1)},
		{two(1125), sum(two(100), num(1)), math.Inf(1)},
		{two(1124), sum(two(101), num(-1)), 0x1p1023},
		{two(long), num(1), math.Inf(1)},
		{num(1), two(long), 0},
		{two(long), two(long), 1},
		{zint.Mul(two(long), num(3)), two(long + 1), 1.5},
		{two(long), two(long - 1023), 0x1p1023},
		{two(long), two(long - 1024), math.Inf(1)},
		{two(long), two(long + 1074), least},
		{two(long), two(long + 1075), 0},
		{sum(two(long), num(1)), two(long + 1075), least},
		{sum(two(long), two(long-53)), two(long), 1},
		{sum(two(long), two(long-53), num(1)), two(long), 0x1.0000000000001p0},
		{two(long), sum(two(long), num(1)), 1},
		{two(long), sum(two(long), num(-1)), 1},
	} {
		got, e := approx.Ratio(c.a, c.b)
		call := fmt.Sprintf("Ratio of numbers of %d and %d words", len(c.a.Mag), len(c.b.Mag))
		float(t, call, got, c.want)
		check.Same(t, call, e, api.OK)
	}
}

// notFinite are the float64 that denote no number.
func notFinite() []float64 {
	return []float64{math.Inf(1), math.Inf(-1), math.NaN(), -math.NaN(), math.Float64frombits(0x7ff0000000000001), math.Float64frombits(0xffffffffffffffff)}
}

// P7.3.
func TestWhole(t *testing.T) {
	for _, c := range []struct {
		f    float64
		want api.Int
	}{
		{2.75, num(2)},
		{0.5, num(0)},
		{0.9999999999999999, num(0)},
		{0, num(0)},
		{1, num(1)},
		{1.9999999999999998, num(1)},
		{least, num(0)},
		{0x1p-1022, num(0)},
		{1e15 + 0.5, num(1e15)},
		{0x1p52 + 0.5, num(1 << 52)},
		{0x1p52 - 0.5, num(1<<52 - 1)},
		{0x1p52 + 1, num(1<<52 + 1)},
		{0x1p53 - 1, num(1<<53 - 1)},
		{0x1p53, num(1 << 53)},
		{0x1.8p63, plus(3 << 62)},
		{0x1p64, plus(0, 1)},
		{0x1.8000000000001p64, plus(high+1<<12, 1)},
		{0x1p70, plus(0, 64)},
		{0x1p1023, two(1023)},
		{most, zint.Sub(two(1024), two(971))},
	} {
		for _, f := range []float64{c.f, -c.f} {
			want := c.want
			if f < 0 {
				want = zint.Neg(want)
			}
			got, e := approx.Whole(f)
			check.Int(t, fmt.Sprintf("Whole(%v)", f), got, want)
			check.Same(t, fmt.Sprintf("Whole(%v)", f), e, api.OK)
		}
	}
	for _, f := range notFinite() {
		got, e := approx.Whole(f)
		check.Int(t, fmt.Sprintf("Whole(%v)", f), got, plus())
		check.Same(t, fmt.Sprintf("Whole(%v)", f), e, api.ErrArg)
	}
}

// holdSplit asks for what Split answers.
func holdSplit(t *testing.T, f float64, m api.Int, n int, e api.Errno) {
	t.Helper()
	gotM, gotN, gotE := approx.Split(f)
	check.Int(t, fmt.Sprintf("Split(%v), m", f), gotM, m)
	check.Same(t, fmt.Sprintf("Split(%v), n", f), gotN, n)
	check.Same(t, fmt.Sprintf("Split(%v)", f), gotE, e)
}

// P7.4.
func TestSplit(t *testing.T) {
	for _, c := range []struct {
		f float64
		m api.Int
		n int
	}{
		{0.75, num(3), -2},
		{12, num(3), 2},
		{1, num(1), 0},
		{-1, num(-1), 0},
		{0.1, num(3602879701896397), -55},
		{least, num(1), -1074},
		{2 * least, num(1), -1073},
		{3 * least, num(3), -1074},
		{0x1p-1022 - least, num(1<<52 - 1), -1074},
		{0x1p-1022, num(1), -1022},
		{0x1p-1022 + least, num(1<<52 + 1), -1074},
		{0x1p-1021, num(1), -1021},
		{0x1p-1021 + 2*least, num(1<<52 + 1), -1073},
		{0x1p53 - 1, num(1<<53 - 1), 0},
		{0x1p53 + 2, num(1<<52 + 1), 1},
		{0x1p1023, num(1), 1023},
		{most, num(1<<53 - 1), 971},
	} {
		holdSplit(t, c.f, c.m, c.n, api.OK)
		holdSplit(t, -c.f, zint.Neg(c.m), c.n, api.OK)
	}
	holdSplit(t, 0, num(0), 0, api.OK)
	holdSplit(t, zeroBelow(), num(0), 0, api.OK)
	for _, f := range notFinite() {
		holdSplit(t, f, num(0), 0, api.ErrArg)
	}
}

// holdCmp asks for the order of a and f, and of minus both.
func holdCmp(t *testing.T, a api.Int, f float64, want int) {
	t.Helper()
	for sign, a := range map[int]api.Int{1: a, -1: zint.Neg(a)} {
		got, e := approx.Cmp(a, float64(sign)*f)
		check.Same(t, fmt.Sprintf("Cmp(%v, %v)", a, float64(sign)*f), got, sign*want)
		check.Same(t, fmt.Sprintf("Cmp(%v, %v)", a, float64(sign)*f), e, api.OK)
	}
}

// P7.5.
func TestCmp(t *testing.T) {
	for _, c := range []struct {
		a    api.Int
		f    float64
		want int
	}{
		{num(9007199254740993), 9007199254740992, 1},
		{num(9007199254740993), 9007199254740994, -1},
		{num(9007199254740992), 9007199254740992, 0},
		{num(0), 0, 0},
		{num(0), zeroBelow(), 0},
		{minus(0, 0), zeroBelow(), 0},
		{num(-1), -0.5, -1},
		{num(0), -0.5, 1},
		{num(1), 0.5, 1},
		{num(1), -0.5, 1},
		{num(0), least, -1},
		{num(1), least, 1},
		{num(-1), least, -1},
		{num(1), 1.0000000000000002, -1},
		{num(1), 0.9999999999999999, 1},
		{num(2), 1.9999999999999998, 1},
		{num(3), 3, 0},
		{num(-3), 3, -1},
		{num(3), -4, 1},
		{plus(3, 0, 0), 3, 0},
		{num(2), 2.75, -1},
		{num(3), 2.75, 1},
		{plus(0, 1), 0x1p64, 0},
		{plus(1, 1), 0x1p64, 1},
		{plus(top), 0x1p64, -1},
		{zint.Sub(two(1024), two(971)), most, 0},
		{sum(two(1024), zint.Neg(two(971)), num(1)), most, 1},
		{sum(two(1024), zint.Neg(two(971)), num(-1)), most, -1},
		{two(1024), most, 1},
		{two(3 << 20), most, 1},
		{two(3 << 20), least, 1},
		{two(3 << 20), math.Inf(1), -1},
		{num(5), math.Inf(1), -1},
		{num(5), math.Inf(-1), 1},
		{num(0), math.Inf(1), -1},
	} {
		holdCmp(t, c.a, c.f, c.want)
	}
	for _, f := range notFinite() {
		for _, a := range []api.Int{num(0), num(-7), plus(top, top)} {
			if f == f {
				continue
			}
			got, e := approx.Cmp(a, f)
			check.Same(t, fmt.Sprintf("Cmp(%v, %v)", a, f), got, 0)
			check.Same(t, fmt.Sprintf("Cmp(%v, %v)", a, f), e, api.ErrArg)
		}
	}
}

// holdTotal asks for the sum of a list, and for the same with the list turned about and with its signs changed.
func holdTotal(t *testing.T, floats []float64, want float64) {
	t.Helper()
	turned := slices.Clone(floats)
	slices.Reverse(turned)
	for _, l := range [][]float64{floats, turned} {
		got, e := approx.Total(l...)
		float(t, fmt.Sprintf("Total(%v)", l), got, want)
		check.Same(t, fmt.Sprintf("Total(%v)", l), e, api.OK)
	}
	for i := range turned {
		turned[i] = -turned[i]
	}
	if want != 0 {
		want = -want
	}
	got, e := approx.Total(turned...)
	float(t, fmt.Sprintf("Total(%v)", turned), got, want)
	check.Same(t, fmt.Sprintf("Total(%v)", turned), e, api.OK)
}

// P7.8.
func TestTotal(t *testing.T) {
	for _, c := range []struct {
		floats []float64
		want   float64
	}{
		{nil, 0},
		{[]float64{}, 0},
		{[]float64{0}, 0},
		{[]float64{zeroBelow()}, 0},
		{[]float64{zeroBelow(), zeroBelow()}, 0},
		{[]float64{-2.5}, -2.5},
		{[]float64{2.5, -2.5}, 0},
		{[]float64{-least, least}, 0},
		{[]float64{-least}, -least},
		{[]float64{least, least, least}, 3 * least},
		{[]float64{1e16, 1, -1e16}, 1},
		{[]float64{1, 1e16, -1e16}, 1},
		{[]float64{0.1, 0.2, -0.3}, 0x1p-55},
		{[]float64{0.1, 0.2}, 0.30000000000000004},
		{[]float64{0x1p53, 1}, 0x1p53},
		{[]float64{0x1p53, 1, least}, 0x1p53 + 2},
		{[]float64{0x1p53, 1, -least}, 0x1p53},
		{[]float64{0x1p53 + 2, 1}, 0x1p53 + 4},
		{[]float64{0x1p53 + 2, 1, -least}, 0x1p53 + 2},
		{[]float64{0x1p-1022, -least}, 0x1p-1022 - least},
		{[]float64{0x1p-1022 - least, least}, 0x1p-1022},
		{[]float64{most, most}, math.Inf(1)},
		{[]float64{most, 0x1p970}, math.Inf(1)},
		{[]float64{most, 0x1p970, -least}, most},
		{[]float64{most, 0x1p969}, most},
		{[]float64{most, most, -most}, most},
		{[]float64{most, most, -most, -most, 5}, 5},
		{[]float64{most, most, most, most, -most, -most, -most, -most, least}, least},
		{[]float64{1, 0x1p-53, 0x1p-106}, 1.0000000000000002},
		{[]float64{1, 0x1p-53, -0x1p-106}, 1},
		{[]float64{1, 0x1p-53}, 1},
	} {
		holdTotal(t, c.floats, c.want)
	}
	for _, f := range notFinite() {
		for _, l := range [][]float64{{f}, {1, f}, {f, 1}, {1, f, 2}, {f, -f}, {math.Inf(1), f}} {
			got, e := approx.Total(l...)
			float(t, fmt.Sprintf("Total(%v)", l), got, 0)
			check.Same(t, fmt.Sprintf("Total(%v)", l), e, api.ErrArg)
		}
	}
}

// P7.8 for many numbers: one after the other, in float64 alone, these would stay at their greatest.
func TestTotalOfMany(t *testing.T) {
	floats := slices.Concat([]float64{0x1p53}, slices.Repeat([]float64{1}, 1000), slices.Repeat([]float64{-least}, 1000))
	holdTotal(t, floats, 0x1p53+1000)
	holdTotal(t, append(floats, 1), 0x1p53+1000)
	holdTotal(t, append(floats, 1, 1000*least), 0x1p53+1000)
	holdTotal(t, append(floats, 1, 1001*least), 0x1p53+1002)
}
