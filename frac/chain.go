package frac

import (
	"slices"

	"trellis/api"
	"trellis/zint"
)

// Chain: the continued fraction of a.
func Chain(a api.Frac) ([]api.Int, api.Errno) {
	num, den := a.Num, a.Den
	if zint.Sign(den) == 0 {
		return nil, api.ErrZero
	}
	var list []api.Int
	for zint.Sign(den) != 0 {
		// The rest has den's sign and less than its size. So what comes next is above 1, and so is its whole part if it is the last one.
		whole, rest, _ := zint.Floor(num, den)
		list = append(list, whole)
		num, den = den, rest
	}
	return list, api.OK
}

// Unchain: the fraction that a list stands for as a continued fraction.
func Unchain(list []api.Int) (api.Frac, api.Errno) {
	if !isChain(list) {
		return api.Frac{}, api.ErrArg
	}
	// From the end on, num/den becomes n + den/num, which starts from 1/0, as nothing is added to the last one.
	// What divides the new two divides the old two, so they stay in lowest terms; and num is above 0 till the first of the list comes in.
	num, den := zint.Of(1), zint.Of(0)
	for _, n := range slices.Backward(list) {
		num, den = zint.MulAdd(n, num, den), num
	}
	return api.Frac{Num: num, Den: den}, api.OK
}

// isChain says if a list stands for a fraction.
func isChain(list []api.Int) bool {
	return len(list) > 0 && !slices.ContainsFunc(list[1:], func(n api.Int) bool { return zint.Sign(n) < 1 })
}
