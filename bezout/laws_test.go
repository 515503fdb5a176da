package bezout_test

import (
	"fmt"
	"slices"
	"testing"

	"trellis/api"
	"trellis/bezout"
	"trellis/check"
	"trellis/zint"
)

// holdDivides asks that d, which is not 0, leaves no rest of a, and answers the quotient.
func holdDivides(t *testing.T, call string, d, a api.Int) api.Int {
	t.Helper()
	quotient, e := zint.Exact(a, d)
	check.Same(t, call, e, api.OK)
	return quotient
}

// holdResidue asks that r lies from 0 on below the size of m.
func holdResidue(t *testing.T, call string, r, m api.Int) {
	t.Helper()
	check.Same(t, call, zint.Sign(r) >= 0 && zint.CmpAbs(r, m) < 0, true)
}

// holdPair asks for all that fixes the divisor, the multiple and the multipliers of a and b, which are not 0.
func holdPair(t *testing.T, a, b api.Int) {
	t.Helper()
	g, x, y := bezout.Ext(a, b)
	call := fmt.Sprintf("Ext(%v, %v) = %v, %v, %v", a, b, g, x, y)
	// A common divisor above 0 that is made of a and b is the greatest one.
	check.Same(t, call+": sign of g", zint.Sign(g), 1)
	ofA := holdDivides(t, call+": g divides a", g, a)
	ofB := holdDivides(t, call+": g divides b", g, b)
	check.Int(t, call+": a x + b y", zint.MulAdd(a, x, zint.Mul(b, y)), g)
	holdResidue(t, call+": x from 0 on, below |b|/g", x, ofB)
	check.Same(t, call+": |y| against |a|/g", zint.CmpAbs(y, ofA) <= 0, true)
	for _, n := range []api.Int{g, x, y} {
		check.Int(t, call+": least form", n, zint.Least(n))
	}
	check.Int(t, fmt.Sprintf("Gcd(%v, %v)", a, b), bezout.Gcd(a, b), g)
	check.Int(t, fmt.Sprintf("Lcm(%v, %v)", a, b), bezout.Lcm(a, b), zint.Abs(zint.Mul(ofA, b)))
}

// P6.1 and P6.2 for numbers of many sizes.
func TestPairLaws(t *testing.T) {
	all := slices.DeleteFunc(check.Integers(), func(a api.Int) bool { return zint.Sign(a) == 0 })
	for _, a := range all {
		for _, b := range all {
			holdPair(t, a, b)
		}
	}
	for i, n := range []int{1, 2, 20, 60} {
		a, b, c := check.Mixed(60, uint64(i)), append(check.Mixed(n, uint64(10+i)), 1), append(check.Mixed(7, uint64(20+i)), 1)
		for _, a := range check.Signs([]list{a}) {
			for _, b := range check.Signs([]list{b}) {
				holdPair(t, a, b)
				holdPair(t, b, a)
				holdPair(t, zint.Mul(a, plus(c...)), zint.Mul(b, plus(c...)))
				holdPair(t, zint.Mul(a, b), b)
				holdPair(t, b, zint.Mul(a, b))
			}
		}
	}
}

// P6.2 where each quotient but the last is 1, so that there are as many steps as there can be.
func TestLongestWay(t *testing.T) {
	a, b := num(1), num(1)
	for range 2000 {
		a, b = zint.Add(a, b), a
	}
	for _, a := range []api.Int{a, zint.Neg(a)} {
		for _, b := range []api.Int{b, zint.Neg(b)} {
			holdPair(t, a, b)
			holdPair(t, b, a)
			holdPair(t, zint.Mul(a, num(6)), zint.Mul(b, num(-6)))
		}
	}
}

// P6.3 and P6.1 for lists of long numbers.
func TestListLaws(t *testing.T) {
	all := check.Integers()
	for i := range all {
		long := slices.Concat(all[i:], all[:i])
		for _, n := range []int{1, 2, 3, 5, 8} {
			holdList(t, long[:n])
		}
	}
	holdList(t, all)
	// Each number lacks another one of these factors: all of them are needed to come down to 1.
	factors := []api.Int{plus(top - 58), plus(1<<61 - 1), plus(top - 94), plus(1<<31 - 1), plus(top - 82), num(-97)}
	var lacking []api.Int
	for i := range factors {
		product := num(1)
		for j, f := range factors {
			if j != i {
				product = zint.Mul(product, f)
			}
		}
		lacking = append(lacking, product)
	}
	holdList(t, lacking)
	check.Int(t, "GcdAll of numbers with no factor in common", bezout.GcdAll(lacking), num(1))
	check.Int(t, "GcdAll of all but the last", bezout.GcdAll(lacking[:5]), num(97))
}

// holdList asks for the rule of the chapter, one number after the other, and for the sum.
func holdList(t *testing.T, numbers []api.Int) {
	t.Helper()
	g, multipliers := bezout.ExtAll(numbers)
	call := fmt.Sprintf("ExtAll(%v)", numbers)
	sum, e := zint.Dot(numbers, multipliers)
	check.Same(t, call+": as many as numbers", e, api.OK)
	check.Int(t, call+": the sum", sum, g)
	check.Int(t, fmt.Sprintf("GcdAll(%v)", numbers), bezout.GcdAll(numbers), g)
	var want []api.Int
	var divisor api.Int
	for _, n := range numbers {
		next, x, y := bezout.Ext(divisor, n)
		for i := range want {
			want[i] = zint.Mul(want[i], x)
		}
		divisor, want = next, append(want, y)
	}
	check.Int(t, call+", the divisor by the rule", g, divisor)
	check.Ints(t, call+", by the rule", multipliers, want)
}

// P6.4 for numbers of many sizes.
func TestInverseLaws(t *testing.T) {
	for _, m := range check.Integers() {
		if zint.Sign(m) == 0 {
			continue
		}
		for _, a := range check.Integers() {
			inverse, e := bezout.Inverse(a, m)
			call := fmt.Sprintf("Inverse(%v, %v) = %v", a, m, inverse)
			if zint.Cmp(bezout.Gcd(a, m), num(1)) != 0 {
				holdRefusal(t, call, e, api.ErrNone, inverse)
				continue
			}
			check.Same(t, call, e, api.OK)
			holdResidue(t, call+": from 0 on, below |m|", inverse, m)
			holdDivides(t, call+": a times it is like 1", m, zint.Sub(zint.Mul(a, inverse), num(1)))
			check.Int(t, call+": least form", inverse, zint.Least(inverse))
		}
	}
}

// power is PowMod where there is no error.
func power(t *testing.T, a, e, m api.Int) api.Int {
	t.Helper()
	got, err := bezout.PowMod(a, e, m)
	check.Same(t, fmt.Sprintf("PowMod(%v, %v, %v)", a, e, m), err, api.OK)
	return got
}

// P6.4: the power itself, brought down but once, for exponents that are small enough.
func TestPowModByPow(t *testing.T) {
	moduli := []api.Int{num(1), num(-2), num(1000), plus(top), minus(0, 1), plus(7, 0, 3, 0), minus(check.Mixed(9, 8)...)}
	for _, a := range check.Signs([]list{nil, {0}, {3}, {top}, {1, 1, 0}, check.Mixed(6, 4)}) {
		for n := range 40 {
			whole, _ := zint.Pow(a, n)
			for _, m := range moduli {
				want, _ := zint.Mod(whole, m)
				check.Int(t, fmt.Sprintf("PowMod(%v, %d, %v)", a, n, m), power(t, a, plus(uint64(n), 0), m), want)
			}
		}
	}
}

// P6.4 for long exponents: the power of a sum, and the power of a power.
func TestPowModLaws(t *testing.T) {
	exponents := []api.Int{num(0), num(1), plus(top), plus(0, 1), plus(high, high, 0), plus(check.Mixed(4, 6)...), plus(append(check.Mixed(5, 7), 0, 0)...)}
	for _, m := range []api.Int{num(1), num(-12), plus(1, 1), minus(top, top), plus(check.Mixed(3, 9)...)} {
		for _, a := range []api.Int{num(0), num(-2), plus(5, 0), minus(top, 3), plus(check.Mixed(6, 5)...)} {
			for _, e := range exponents {
				for _, f := range exponents {
					first := power(t, a, e, m)
					product, _ := zint.Mod(zint.Mul(first, power(t, a, f, m)), m)
					call := fmt.Sprintf("PowMod of %v to %v and %v modulo %v", a, e, f, m)
					check.Int(t, call+", sum", power(t, a, zint.Add(e, f), m), product)
					check.Int(t, call+", product", power(t, a, zint.Mul(e, f), m), power(t, first, f, m))
				}
			}
		}
	}
}

// P6.4: each number is its own power, to a prime and modulo it.
func TestPowModOfPrimes(t *testing.T) {
	for _, n := range []int{61, 89, 107, 127, 521, 607} {
		prime := num(1)
		for range n {
			prime = zint.Add(prime, prime)
		}
		prime = zint.Sub(prime, num(1))
		for _, a := range []api.Int{num(2), num(-3), minus(check.Mixed(12, 3)...)} {
			want, _ := zint.Mod(a, prime)
			check.Int(t, fmt.Sprintf("PowMod(%v, p, p), p = 2^%d - 1", a, n), power(t, a, prime, prime), want)
		}
	}
}

// P6.5: the remainders of one number lead back to it, whatever the moduli have in common; and not, if one is moved.
func TestCrtLaws(t *testing.T) {
	moduli := [][]api.Int{
		check.Integers()[2:30],
		check.Integers()[40:],
		{plus(0, 0, 1), minus(0, 6), plus(0, 15), num(10), num(-4)},
		{minus(check.Mixed(30, 1)...), plus(check.Mixed(3, 2)...), num(-1), plus(check.Mixed(30, 3)...)},
	}
	for _, ms := range moduli {
		ms = slices.DeleteFunc(slices.Clone(ms), func(m api.Int) bool { return zint.Sign(m) == 0 })
		for _, n := range check.Signs([]list{nil, {1}, {top, top}, check.Mixed(50, 4), append(check.Mixed(200, 5), 0)}) {
			holdCrt(t, n, ms)
		}
	}
}

func holdCrt(t *testing.T, n api.Int, ms []api.Int) {
	t.Helper()
	common := lcmOf(ms)
	var rs []api.Int
	for i, m := range ms {
		// A remainder that lies near its place, and ones that are far off, on both sides.
		near, _ := zint.Mod(n, m)
		rs = append(rs, zint.MulAdd(m, num(i%5-2), near))
	}
	want, _ := zint.Mod(n, common)
	call := fmt.Sprintf("CrtAll of the remainders of %v modulo %v", n, ms)
	r, m, e := bezout.CrtAll(rs, ms)
	check.Int(t, call+", r", r, want)
	check.Int(t, call+", m", m, common)
	check.Same(t, call, e, api.OK)
	slices.Reverse(rs)
	back := slices.Clone(ms)
	slices.Reverse(back)
	r, m, e = bezout.CrtAll(rs, back)
	check.Int(t, call+", from the end on, r", r, want)
	check.Int(t, call+", from the end on, m", m, common)
	check.Same(t, call+", from the end on", e, api.OK)
	// The last modulus shares a divisor above 1 with the rest of them, or moving its remainder changes nothing in this.
	last := len(rs) - 1
	shared := bezout.Gcd(back[last], lcmOf(back[:last]))
	rs[last] = zint.Add(rs[last], num(1))
	r, m, e = bezout.CrtAll(rs, back)
	if zint.Cmp(shared, num(1)) == 0 {
		check.Same(t, call+", one of them moved", e, api.OK)
	} else {
		holdRefusal(t, call+", one of them moved", e, api.ErrNone, r, m)
	}
}

func lcmOf(ms []api.Int) api.Int {
	common := num(1)
	for _, m := range ms {
		common = bezout.Lcm(common, m)
	}
	return common
}
