package approx_test

import (
	"fmt"
	"math"
	"slices"
	"testing"

	"trellis/api"
	"trellis/approx"
	"trellis/check"
	"trellis/zint"
)

// leastPower is such that each finite float64 is a whole number of steps, each 2^-leastPower long.
const leastPower = 1074

// steps is f in such steps, by the language's own means; an infinity counts as the power of 2 that it stands at.
func steps(f float64) api.Int {
	if math.IsInf(f, 1) {
		return two(topPower + leastPower)
	}
	if f < 0 || math.IsInf(f, -1) {
		return zint.Neg(steps(-f))
	}
	part, power := math.Frexp(f)
	count := int(math.Ldexp(part, 53))
	places := power - 53 + leastPower
	if places < 0 {
		return num(count >> -places)
	}
	return zint.Mul(num(count), two(places))
}

// middle is the number midway between f and the next float64 toward infinity with that sign, in half steps.
func middle(f float64, sign int) api.Int {
	next := math.Nextafter(f, math.Inf(sign))
	return zint.Add(steps(f), steps(next))
}

// holdNearest asks that f is the float64 nearest to a divided by b, which is above 0.
func holdNearest(t *testing.T, call string, f float64, a, b api.Int) {
	t.Helper()
	even := math.Float64bits(f)%2 == 0
	half := zint.Mul(a, two(leastPower+1))
	for _, sign := range []int{-1, 1} {
		if math.IsInf(f, sign) {
			continue
		}
		side := sign * zint.Cmp(zint.Mul(middle(f, sign), b), half)
		if side < 0 || side == 0 && !even {
			t.Errorf("%s = %v (%#x): another one is nearer, or as near and even", call, f, math.Float64bits(f))
		}
	}
	if f == 0 && math.Signbit(f) {
		t.Errorf("%s: a zero with a sign", call)
	}
}

// floats are finite float64 of all kinds, both signs of each, the zeros and the ends of the ranges among them.
func floats() []float64 {
	all := []float64{0, least, 2 * least, 3 * least, 0x1p-1022 - least, 0x1p-1022, 0x1p-1022 + least, 0x1p-1021, 0.5, 1, 1.5, 0x1p52 - 0.5, 0x1p53 - 1, 0x1p53, 0x1p64, 0x1p1023, 0x1.ffffffffffffep1023, most}
	for i, w := range check.Mixed(300, 21) {
		f := math.Float64frombits(w &^ high)
		if i%3 == 0 {
			// Of middling size, with few digits or many.
			f = math.Ldexp(float64(w>>(11+i%50)), i%140-90)
		}
		if i%10 == 1 {
			f = math.Float64frombits(w >> (12 + i%40))
		}
		if !math.IsInf(f, 0) && !math.IsNaN(f) {
			all = append(all, f)
		}
	}
	for _, f := range all {
		all = append(all, -f)
	}
	return all
}

// P7.2 and P7.1 for numbers of many lengths.
func TestNearestLaws(t *testing.T) {
	for _, a := range check.Integers() {
		holdNearest(t, fmt.Sprintf("Near(%v)", a), approx.Near(a), a, num(1))
		for _, b := range check.Integers() {
			got, e := approx.Ratio(a, b)
			if zint.Sign(b) == 0 {
				check.Same(t, fmt.Sprintf("Ratio(%v, %v)", a, b), e, api.ErrZero)
				continue
			}
			check.Same(t, fmt.Sprintf("Ratio(%v, %v)", a, b), e, api.OK)
			holdNearest(t, fmt.Sprintf("Ratio(%v, %v)", a, b), got, zint.Mul(a, num(zint.Sign(b))), zint.Abs(b))
		}
	}
	for i := range 200 {
		a, b := plus(check.Mixed(1+i%30, uint64(i))...), plus(append(check.Mixed(i*7%30, uint64(i+300)), 1)...)
		got, _ := approx.Ratio(a, b)
		holdNearest(t, fmt.Sprintf("Ratio(%v, %v)", a, b), got, a, b)
		holdNearest(t, fmt.Sprintf("Near(%v)", a), approx.Near(a), a, num(1))
	}
}

// P7.1, P7.2 and P7.7 at each float64, midway to its neighbours, and just beside that.
func TestNearestOfMiddles(t *testing.T) {
	// Half a step is 5^fives times 10^-fives: so each count of them has a decimal text that is exact.
	const fives = leastPower + 1
	five := num(1)
	for range fives {
		five = zint.Mul(five, num(5))
	}
	for _, f := range floats() {
		for _, halves := range []api.Int{zint.Add(steps(f), steps(f)), middle(f, 1), middle(f, -1)} {
			for _, more := range []int{-1, 0, 1} {
				a, b := zint.Add(zint.Mul(halves, two(70)), num(more)), two(70+fives)
				got, _ := approx.Ratio(a, b)
				holdNearest(t, fmt.Sprintf("Ratio of %d beside %v", more, f), got, a, b)
				a, b = zint.Add(zint.Mul(halves, num(21)), num(more)), zint.Mul(two(fives), num(21))
				got, _ = approx.Ratio(a, b)
				holdNearest(t, fmt.Sprintf("Ratio by 21 of %d beside %v", more, f), got, a, b)
				a, b = zint.Add(zint.Mul(halves, five), num(more)), zint.Mul(two(fives), five)
				got, e := approx.Read(zint.Text(a) + "e-1075")
				holdNearest(t, fmt.Sprintf("Read of %d beside %v", more, f), got, a, b)
				check.Same(t, "Read of a middle", e, api.OK)
				if whole, e := zint.Exact(halves, two(fives)); e == api.OK {
					a = zint.Add(whole, num(more))
					holdNearest(t, fmt.Sprintf("Near of %d beside %v", more, f), approx.Near(a), a, num(1))
				}
			}
		}
	}
}

// P7.3, P7.4 and P7.5 for float64 of all kinds, by what they are in steps.
func TestExactLaws(t *testing.T) {
	for _, f := range floats() {
		want, _, _ := zint.Trunc(steps(f), two(leastPower))
		whole, e := approx.Whole(f)
		check.Int(t, fmt.Sprintf("Whole(%v)", f), whole, want)
		check.Same(t, fmt.Sprintf("Whole(%v)", f), e, api.OK)
		m, n, e := approx.Split(f)
		call := fmt.Sprintf("Split(%v) = %v, %d", f, m, n)
		check.Same(t, call, e, api.OK)
		check.Int(t, call+": least form", m, zint.Least(m))
		if f != 0 {
			check.Same(t, call+": odd", m.Mag[0]%2, 1)
			check.Int(t, call+": the product", zint.Mul(m, two(n+leastPower)), steps(f))
		}
		for _, more := range []int{-2, -1, 0, 1, 2} {
			holdOrder(t, zint.Add(whole, num(more)), f)
		}
		for _, a := range []api.Int{num(0), num(1), minus(0, 0, 1, 0), zint.Neg(whole)} {
			holdOrder(t, a, f)
		}
	}
}

// holdOrder asks for the order of a and f, by what both are in steps.
func holdOrder(t *testing.T, a api.Int, f float64) {
	t.Helper()
	got, e := approx.Cmp(a, f)
	check.Same(t, fmt.Sprintf("Cmp(%v, %v)", a, f), got, zint.Cmp(zint.Mul(a, two(leastPower)), steps(f)))
	check.Same(t, fmt.Sprintf("Cmp(%v, %v)", a, f), e, api.OK)
}

// P7.1, P7.3, P7.7 and P7.8: a float64 comes back from what it denotes.
func TestThereAndBack(t *testing.T) {
	for _, f := range floats() {
		plain := f
		if f == 0 {
			plain = 0
		}
		total, e := approx.Total(f)
		float(t, fmt.Sprintf("Total(%v)", f), total, plain)
		check.Same(t, fmt.Sprintf("Total(%v)", f), e, api.OK)
		m, n, _ := approx.Split(f)
		ratio, _ := approx.Ratio(zint.Mul(m, two(max(n, 0))), two(max(-n, 0)))
		float(t, fmt.Sprintf("Ratio of the parts of %v", f), ratio, plain)
		if f == math.Trunc(f) {
			whole, _ := approx.Whole(f)
			float(t, fmt.Sprintf("Near(Whole(%v))", f), approx.Near(whole), plain)
		}
		holdRead(t, fmt.Sprintf("%.1100f", f), plain, api.OK)
		holdRead(t, fmt.Sprintf("%.16e", f), plain, api.OK)
		holdRead(t, fmt.Sprintf("%.20E", f), plain, api.OK)
	}
}

// P7.8 for lists of all lengths, in each order.
func TestTotalLaws(t *testing.T) {
	all := floats()
	for i := range all {
		list := slices.Clone(all[i:min(i+1+i%9, len(all))])
		if i%4 == 0 {
			// The greatest of them goes away, and the others are left.
			list = append(list, -slices.MaxFunc(list, func(f, g float64) int { return zint.CmpAbs(steps(f), steps(g)) }))
		}
		var exact api.Int
		for _, f := range list {
			exact = zint.Add(exact, steps(f))
		}
		got, e := approx.Total(list...)
		check.Same(t, fmt.Sprintf("Total(%v)", list), e, api.OK)
		holdNearest(t, fmt.Sprintf("Total(%v)", list), got, exact, two(leastPower))
		slices.Sort(list)
		sorted, _ := approx.Total(list...)
		float(t, fmt.Sprintf("Total(%v), sorted", list), sorted, got)
	}
}
