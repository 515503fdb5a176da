package zint_test

import (
	"fmt"
	"testing"

	"trellis/api"
	"trellis/check"
	"trellis/zint"
)

// parts are a quotient and a rest.
type parts struct{ q, r api.Int }

// divisions are the three that answer a quotient and a rest, by their names.
func divisions() map[string]func(a, b api.Int) (api.Int, api.Int, api.Errno) {
	return map[string]func(a, b api.Int) (api.Int, api.Int, api.Errno){"Trunc": zint.Trunc, "Floor": zint.Floor, "Euclid": zint.Euclid}
}

// P5.7, P5.8 and P5.9.
func TestDivisions(t *testing.T) {
	for _, c := range []struct {
		a, b                 api.Int
		trunc, floor, euclid parts
	}{
		{num(7), num(2), parts{num(3), num(1)}, parts{num(3), num(1)}, parts{num(3), num(1)}},
		{num(-7), num(2), parts{num(-3), num(-1)}, parts{num(-4), num(1)}, parts{num(-4), num(1)}},
		{num(7), num(-2), parts{num(-3), num(1)}, parts{num(-4), num(-1)}, parts{num(-3), num(1)}},
		{num(-7), num(-2), parts{num(3), num(-1)}, parts{num(3), num(-1)}, parts{num(4), num(1)}},
		{minus(7, 0), plus(2, 0, 0), parts{num(-3), num(-1)}, parts{num(-4), num(1)}, parts{num(-4), num(1)}},
		{num(2), num(7), parts{num(0), num(2)}, parts{num(0), num(2)}, parts{num(0), num(2)}},
		{num(-2), num(7), parts{num(0), num(-2)}, parts{num(-1), num(5)}, parts{num(-1), num(5)}},
		{num(2), num(-7), parts{num(0), num(2)}, parts{num(-1), num(-5)}, parts{num(0), num(2)}},
		{num(-2), num(-7), parts{num(0), num(-2)}, parts{num(0), num(-2)}, parts{num(1), num(5)}},
		{num(0), num(-5), parts{}, parts{}, parts{}},
		{minus(0), minus(5), parts{}, parts{}, parts{}},
		{minus(0, 0), plus(5), parts{}, parts{}, parts{}},
		{num(-6), num(3), parts{num(-2), num(0)}, parts{num(-2), num(0)}, parts{num(-2), num(0)}},
		{num(6), num(-3), parts{num(-2), num(0)}, parts{num(-2), num(0)}, parts{num(-2), num(0)}},
		{num(-6), num(-3), parts{num(2), num(0)}, parts{num(2), num(0)}, parts{num(2), num(0)}},
		{minus(high), num(-1), parts{plus(high), num(0)}, parts{plus(high), num(0)}, parts{plus(high), num(0)}},
		{minus(1, 1), plus(0, 1), parts{num(-1), num(-1)}, parts{num(-2), plus(top)}, parts{num(-2), plus(top)}},
		{minus(1, 1), minus(0, 1), parts{num(1), num(-1)}, parts{num(1), num(-1)}, parts{num(2), plus(top)}},
		{plus(1, 1), minus(0, 1), parts{num(-1), num(1)}, parts{num(-2), minus(top)}, parts{num(-1), num(1)}},
		{minus(1, top), plus(0, 1), parts{minus(top), num(-1)}, parts{minus(0, 1), plus(top)}, parts{minus(0, 1), plus(top)}},
		{minus(1, top), minus(0, 1), parts{plus(top), num(-1)}, parts{plus(top), num(-1)}, parts{plus(0, 1), plus(top)}},
	} {
		for name, want := range map[string]parts{"Trunc": c.trunc, "Floor": c.floor, "Euclid": c.euclid} {
			call := fmt.Sprintf("%s(%v, %v)", name, c.a, c.b)
			q, r, e := divisions()[name](c.a, c.b)
			check.Int(t, call+", quotient", q, want.q)
			check.Int(t, call+", rest", r, want.r)
			check.Same(t, call, e, api.OK)
		}
	}
}

// P5.7 to P5.11: whatever is divided by 0, in whatever form.
func TestDivisionByZero(t *testing.T) {
	for _, zero := range zeros() {
		for _, a := range append(zeros(), num(4), num(-4), plus(top, top), minus(0, 0, 1, 0)) {
			for name, divide := range divisions() {
				call := fmt.Sprintf("%s(%v, %v)", name, a, zero)
				q, r, e := divide(a, zero)
				check.Int(t, call+", quotient", q, plus())
				check.Int(t, call+", rest", r, plus())
				check.Same(t, call, e, api.ErrZero)
			}
			for name, divide := range map[string]func(a, b api.Int) (api.Int, api.Errno){"Exact": zint.Exact, "Mod": zint.Mod, "Sym": zint.Sym} {
				call := fmt.Sprintf("%s(%v, %v)", name, a, zero)
				got, e := divide(a, zero)
				check.Int(t, call, got, plus())
				check.Same(t, call, e, api.ErrZero)
			}
		}
	}
}

// P5.10.
func TestExact(t *testing.T) {
	for _, c := range []struct {
		a, b, want api.Int
		e          api.Errno
	}{
		{num(-12), num(4), num(-3), api.OK},
		{num(12), num(-4), num(-3), api.OK},
		{num(-12), num(-4), num(3), api.OK},
		{num(12), num(4), num(3), api.OK},
		{num(0), num(5), num(0), api.OK},
		{minus(0), num(5), num(0), api.OK},
		{num(0), num(-5), num(0), api.OK},
		{minus(7, 0), plus(1, 0), num(-7), api.OK},
		{num(7), num(-1), num(-7), api.OK},
		{num(-7), num(-7), num(1), api.OK},
		{minus(0, 3), plus(0, 1), num(-3), api.OK},
		{minus(1, top-1), minus(top, 0), plus(top), api.OK},
		{minus(high), minus(1), plus(high), api.OK},
		{num(7), num(2), num(0), api.ErrExact},
		{num(-7), num(2), num(0), api.ErrExact},
		{num(7), num(-2), num(0), api.ErrExact},
		{num(1), num(2), num(0), api.ErrExact},
		{num(-1), plus(0, 1), num(0), api.ErrExact},
		{minus(2, top-1), minus(top), num(0), api.ErrExact},
	} {
		got, e := zint.Exact(c.a, c.b)
		check.Int(t, fmt.Sprintf("Exact(%v, %v)", c.a, c.b), got, c.want)
		check.Same(t, fmt.Sprintf("Exact(%v, %v)", c.a, c.b), e, c.e)
	}
}

// P5.11: the sign of the modulus makes no difference.
func TestResidues(t *testing.T) {
	for _, c := range []struct{ a, m, mod, sym api.Int }{
		{num(-1), num(5), num(4), num(-1)},
		{num(4), num(1), num(0), num(0)},
		{num(-9), num(1), num(0), num(0)},
		{num(0), num(7), num(0), num(0)},
		{minus(0), num(7), num(0), num(0)},
		{num(1), num(2), num(1), num(1)},
		{num(-1), num(2), num(1), num(1)},
		{num(2), num(6), num(2), num(2)},
		{num(3), num(6), num(3), num(3)},
		{num(-3), num(6), num(3), num(3)},
		{num(4), num(6), num(4), num(-2)},
		{num(-4), num(6), num(2), num(2)},
		{num(3), num(7), num(3), num(3)},
		{num(4), num(7), num(4), num(-3)},
		{num(-7), num(7), num(0), num(0)},
		{num(14), num(7), num(0), num(0)},
		{num(-1), plus(0, 1), plus(top), num(-1)},
		{plus(high), plus(0, 1), plus(high), plus(high)},
		{minus(high), plus(0, 1), plus(high), plus(high)},
		{plus(high + 1), plus(0, 1), plus(high + 1), minus(high - 1)},
		{plus(high, high), plus(0, 1, 0), plus(high), plus(high)},
		{minus(1, 0, 5), plus(0, 0, 1), plus(top, top), num(-1)},
		{plus(0, high), plus(0, 0, 1), plus(0, high), plus(0, high)},
		{plus(1, high), plus(0, 0, 1), plus(1, high), minus(top, high-1)},
	} {
		for _, m := range []api.Int{c.m, {Neg: true, Mag: c.m.Mag}} {
			call := fmt.Sprintf("of %v modulo %v", c.a, m)
			mod, e := zint.Mod(c.a, m)
			check.Int(t, "Mod "+call, mod, c.mod)
			check.Same(t, "Mod "+call, e, api.OK)
			sym, e := zint.Sym(c.a, m)
			check.Int(t, "Sym "+call, sym, c.sym)
			check.Same(t, "Sym "+call, e, api.OK)
		}
	}
}

// P5.7 to P5.11, of small numbers, each by each, against those of the language.
func TestDivisionsOfSmall(t *testing.T) {
	for a := -40; a <= 40; a++ {
		for b := -20; b <= 20; b++ {
			if b != 0 {
				holdSmall(t, a, b)
			}
		}
	}
}

func holdSmall(t *testing.T, a, b int) {
	t.Helper()
	// The rest of each kind that lies where it must, and differs from a by a multiple of b.
	rests := map[string]int{"Trunc": a % b, "Floor": (a%b + b) % b, "Euclid": (a%b + size(b)) % size(b)}
	for name, rest := range rests {
		call := fmt.Sprintf("%s(%d, %d)", name, a, b)
		q, r, e := divisions()[name](num(a), num(b))
		check.Int(t, call+", quotient", q, num((a-rest)/b))
		check.Int(t, call+", rest", r, num(rest))
		check.Same(t, call, e, api.OK)
	}
	mod, _ := zint.Mod(num(a), num(b))
	check.Int(t, fmt.Sprintf("Mod(%d, %d)", a, b), mod, num(rests["Euclid"]))
	near := rests["Euclid"]
	if 2*near > size(b) {
		near -= size(b)
	}
	sym, _ := zint.Sym(num(a), num(b))
	check.Int(t, fmt.Sprintf("Sym(%d, %d)", a, b), sym, num(near))
	quotient, e := zint.Exact(num(a), num(b))
	if a%b == 0 {
		check.Int(t, fmt.Sprintf("Exact(%d, %d)", a, b), quotient, num(a/b))
		check.Same(t, fmt.Sprintf("Exact(%d, %d)", a, b), e, api.OK)
	} else {
		check.Int(t, fmt.Sprintf("Exact(%d, %d)", a, b), quotient, num(0))
		check.Same(t, fmt.Sprintf("Exact(%d, %d)", a, b), e, api.ErrExact)
	}
}
