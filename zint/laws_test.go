package zint_test

import (
	"fmt"
	"testing"

	"trellis/api"
	"trellis/check"
	"trellis/zint"
)

// P5.1, P5.3 and P5.4 for one number.
func TestOnesByComplement(t *testing.T) {
	for _, a := range check.Integers() {
		x := complementOf(a)
		check.Int(t, fmt.Sprintf("Least(%v)", a), zint.Least(a), x.integer())
		check.Same(t, fmt.Sprintf("Sign(%v)", a), zint.Sign(a), x.sign())
		check.Int(t, fmt.Sprintf("Neg(%v)", a), zint.Neg(a), x.negated().integer())
		want := x
		if x.sign() < 0 {
			want = x.negated()
		}
		check.Int(t, fmt.Sprintf("Abs(%v)", a), zint.Abs(a), want.integer())
	}
}

// P5.3, P5.4 and P5.5 for two numbers.
func TestPairsByComplement(t *testing.T) {
	for _, a := range check.Integers() {
		x := complementOf(a)
		for _, b := range check.Integers() {
			y := complementOf(b)
			pair := fmt.Sprintf("(%v, %v)", a, b)
			check.Same(t, "Cmp"+pair, zint.Cmp(a, b), x.minus(y).sign())
			check.Int(t, "Add"+pair, zint.Add(a, b), x.plus(y).integer())
			check.Int(t, "Sum"+pair, zint.Sum(a, b), x.plus(y).integer())
			check.Int(t, "Sub"+pair, zint.Sub(a, b), x.minus(y).integer())
			check.Int(t, "Mul"+pair, zint.Mul(a, b), x.times(y).integer())
			// The squares are in the order of the sizes.
			check.Same(t, "CmpAbs"+pair, zint.CmpAbs(a, b), x.times(x).minus(y.times(y)).sign())
		}
	}
}

// P5.4 and P5.5 for three numbers.
func TestTriplesByComplement(t *testing.T) {
	some := signs(append(check.ShortSamples(1), list{0, 1}, list{top, top}, list{1, 0, 1, 0}))
	for _, a := range some {
		x := complementOf(a)
		for _, b := range some {
			y := complementOf(b)
			product, sum := x.times(y), x.plus(y)
			for _, c := range some {
				z := complementOf(c)
				triple := fmt.Sprintf("(%v, %v, %v)", a, b, c)
				check.Int(t, "MulAdd"+triple, zint.MulAdd(a, b, c), product.plus(z).integer())
				check.Int(t, "Sum"+triple, zint.Sum(a, b, c), sum.plus(z).integer())
				dot, e := zint.Dot([]api.Int{a, c}, []api.Int{b, a})
				check.Int(t, "Dot"+triple, dot, product.plus(z.times(x)).integer())
				check.Same(t, "Dot"+triple, e, api.OK)
			}
		}
	}
}

// P5.5 for lists of all of them.
func TestListsByComplement(t *testing.T) {
	all := check.Integers()
	turned := append(all[7:len(all):len(all)], all[:7]...)
	var sum, dot complement
	for i, a := range all {
		sum = sum.plus(complementOf(a))
		dot = dot.plus(complementOf(a).times(complementOf(turned[i])))
		check.Int(t, "Sum of a list", zint.Sum(all[:i+1]...), sum.integer())
		got, e := zint.Dot(all[:i+1], turned[:i+1])
		check.Int(t, "Dot of two lists", got, dot.integer())
		check.Same(t, "Dot of two lists", e, api.OK)
	}
}

// P5.6.
func TestPowersByComplement(t *testing.T) {
	for _, a := range signs(check.ShortSamples(2)) {
		x := complementOf(a)
		power := complement{1}
		for n := range 14 {
			got, e := zint.Pow(a, n)
			check.Int(t, fmt.Sprintf("Pow(%v, %d)", a, n), got, power.integer())
			check.Same(t, fmt.Sprintf("Pow(%v, %d)", a, n), e, api.OK)
			power = power.times(x)
		}
	}
}

// P5.7 to P5.11 for long numbers and short ones.
func TestDivisionLaws(t *testing.T) {
	for _, a := range check.Integers() {
		for _, b := range check.Integers() {
			if zint.Sign(b) != 0 {
				holdDivisions(t, a, b)
				holdResidues(t, a, b)
			}
		}
	}
	for i, n := range []int{1, 30, 100, 199} {
		for _, b := range signs([]list{append(check.Mixed(n, uint64(i)), 3)}) {
			for _, a := range signs([]list{check.Mixed(200, uint64(40+i))}) {
				holdDivisions(t, a, b)
				holdResidues(t, a, b)
				holdDivisions(t, zint.Mul(a, b), b)
				holdDivisions(t, b, a)
			}
		}
	}
}

// holdDivisions asks for the only quotients and rests that there are, of a by b, which is not 0.
func holdDivisions(t *testing.T, a, b api.Int) {
	t.Helper()
	signOf := map[string]int{"Trunc": zint.Sign(a), "Floor": zint.Sign(b), "Euclid": 1}
	for name, divide := range divisions() {
		q, r, e := divide(a, b)
		call := fmt.Sprintf("%s(%v, %v) = %v, %v", name, a, b, q, r)
		check.Same(t, call, e, api.OK)
		check.Int(t, call+": q b + r", zint.MulAdd(q, b, r), zint.Least(a))
		check.Same(t, call+": size of r against b", zint.CmpAbs(r, b), -1)
		if sign := zint.Sign(r); sign != 0 {
			check.Same(t, call+": sign of r", sign, signOf[name])
		}
		check.Int(t, call+": least form of q", q, zint.Least(q))
		check.Int(t, call+": least form of r", r, zint.Least(r))
	}
	q, r, _ := zint.Trunc(a, b)
	want := api.OK
	if zint.Sign(r) != 0 {
		q, want = plus(), api.ErrExact
	}
	exact, e := zint.Exact(a, b)
	check.Int(t, fmt.Sprintf("Exact(%v, %v)", a, b), exact, q)
	check.Same(t, fmt.Sprintf("Exact(%v, %v)", a, b), e, want)
}

// holdResidues asks for the only residues of a that there are, modulo m, which is not 0.
func holdResidues(t *testing.T, a, m api.Int) {
	t.Helper()
	call := fmt.Sprintf("of %v modulo %v", a, m)
	mod, e := zint.Mod(a, m)
	check.Same(t, "Mod "+call, e, api.OK)
	sym, e := zint.Sym(a, m)
	check.Same(t, "Sym "+call, e, api.OK)
	for name, r := range map[string]api.Int{"Mod ": mod, "Sym ": sym} {
		_, e := zint.Exact(zint.Sub(a, r), m)
		check.Same(t, name+call+": differs from a by a multiple", e, api.OK)
		check.Int(t, name+call+": least form", r, zint.Least(r))
	}
	whole, twice := zint.Abs(m), zint.Add(sym, sym)
	check.Same(t, "Mod "+call+": from 0 on, below m", zint.Sign(mod) >= 0 && zint.Cmp(mod, whole) < 0, true)
	check.Same(t, "Sym "+call+": from -|m| to |m|, doubled", zint.Cmp(twice, zint.Neg(whole)) > 0 && zint.Cmp(twice, whole) <= 0, true)
	turned, _ := zint.Mod(a, zint.Neg(m))
	check.Int(t, "Mod "+call+", turned", turned, mod)
	turned, _ = zint.Sym(a, zint.Neg(m))
	check.Int(t, "Sym "+call+", turned", turned, sym)
}
