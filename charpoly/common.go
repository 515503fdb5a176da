package charpoly

import (
	"trellis/api"
	"trellis/bezout"
	"trellis/zint"
)

// common is the greatest common divisor of p, which is monic, and q: monic itself, and every polynomial that divides both divides it.
// It is read off the greatest common divisor of the values at a large x.
func common(p, q []api.Int) []api.Int {
	_, rest, _ := DivMonic(q, p)
	if len(rest) == 0 {
		return p
	}
	for x := beyondRoots(p); ; x = zint.Mul(x, x) {
		shared := bezout.Gcd(Value(p, x), Value(rest, x))
		divisor := primitive(digits(shared, x))
		// Such a divisor is the greatest: a factor that it lacks would be monic, of p's roots, so its value at x would be above half of x; but it would divide what primitive left out of the digits, none of which is so large.
		// And one is found: the values of what the greatest one leaves of p and of the rest have no common divisor beyond a bound that does not hang on x, so, x being large enough, the digits are a multiple of it.
		if divides(divisor, p) && divides(divisor, rest) {
			return divisor
		}
	}
}

// beyondRoots is a number that is more than twice as large as every root of p, which is monic: each lies below the greatest size of a coefficient, plus 1.
func beyondRoots(p []api.Int) api.Int {
	var most api.Int
	for _, coefficient := range p {
		if zint.CmpAbs(coefficient, most) > 0 {
			most = zint.Abs(coefficient)
		}
	}
	// Far more than twice, so that seldom a larger one must be tried.
	return zint.Mul(zint.Add(most, zint.Of(1)), zint.Of(1<<32))
}

// digits is the polynomial whose value at x is n, with coefficients at most half as large as x.
func digits(n, x api.Int) []api.Int {
	var list []api.Int
	for zint.Sign(n) != 0 {
		digit, _ := zint.Sym(n, x)
		list = append(list, digit)
		n, _ = zint.Exact(zint.Sub(n, digit), x)
	}
	return list
}

// primitive is p over the greatest common divisor of its coefficients.
func primitive(p []api.Int) []api.Int {
	content := bezout.GcdAll(p)
	parts := make([]api.Int, len(p))
	for i, coefficient := range p {
		parts[i], _ = zint.Exact(coefficient, content)
	}
	return parts
}

// divides says if q is monic and p a multiple of it.
func divides(q, p []api.Int) bool {
	_, rest, e := DivMonic(p, q)
	return e == api.OK && len(rest) == 0
}
