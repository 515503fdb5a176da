package charpoly

import (
	"trellis/api"
	"trellis/zint"
)

// Trim: p without zeros at its high end.
func Trim(p []api.Int) []api.Int {
	p = significant(p)
	trimmed := make([]api.Int, len(p))
	for i, coefficient := range p {
		trimmed[i] = zint.Least(coefficient)
	}
	return trimmed
}

// Add: p + q.
func Add(p, q []api.Int) []api.Int {
	p, q = significant(p), significant(q)
	if len(p) < len(q) {
		p, q = q, p
	}
	sum := Trim(p)
	for i, coefficient := range q {
		sum[i] = zint.Add(sum[i], coefficient)
	}
	return significant(sum)
}

// Mul: p times q.
func Mul(p, q []api.Int) []api.Int {
	p, q = significant(p), significant(q)
	if len(p) == 0 || len(q) == 0 {
		return nil
	}
	// The highest coefficient is the product of two that are not 0: so there is nothing to trim.
	product := make([]api.Int, len(p)+len(q)-1)
	for i, one := range p {
		for j, other := range q {
			product[i+j] = zint.MulAdd(one, other, product[i+j])
		}
	}
	return product
}

// DivMonic: quotient and rest of p by q, which begins with 1.
func DivMonic(p, q []api.Int) (quot, rest []api.Int, e api.Errno) {
	q = significant(q)
	if !isMonic(q) {
		return nil, nil, api.ErrForm
	}
	n := len(q) - 1
	left := Trim(p)
	quot = make([]api.Int, max(0, len(left)-n))
	for i := len(quot) - 1; i >= 0; i-- {
		quot[i] = left[i+n]
		for j, coefficient := range q[:n] {
			left[i+j] = zint.Sub(left[i+j], zint.Mul(quot[i], coefficient))
		}
	}
	// A copy, since behind the rest the same memory holds what the quotient is made of.
	return quot, Trim(left[:min(n, len(left))]), api.OK
}

// Value: p at x.
func Value(p []api.Int, x api.Int) api.Int {
	p = significant(p)
	for len(p) > 2 {
		p = paired(p, x)
		x = zint.Mul(x, x)
	}
	return zint.Sum(paired(p, x)...)
}

// paired is the polynomial, half as long, whose value at the square of x is that of p at x.
// So one long number is not gone through again for each of many short ones.
func paired(p []api.Int, x api.Int) []api.Int {
	half := make([]api.Int, (len(p)+1)/2)
	for i := range half {
		half[i] = p[2*i]
		if 2*i+1 < len(p) {
			half[i] = zint.MulAdd(p[2*i+1], x, p[2*i])
		}
	}
	return half
}

// significant is p without zeros at its high end, in p's own memory.
func significant(p []api.Int) []api.Int {
	for len(p) > 0 && zint.Sign(p[len(p)-1]) == 0 {
		p = p[:len(p)-1]
	}
	return p
}

// isMonic says if the last coefficient of p is 1.
func isMonic(p []api.Int) bool {
	return len(p) > 0 && zint.Cmp(p[len(p)-1], zint.Of(1)) == 0
}
