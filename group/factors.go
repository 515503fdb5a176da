package group

import (
	"slices"

	"trellis/api"
	"trellis/bezout"
	"trellis/mat"
	"trellis/snf"
	"trellis/zint"
)

// parts tells of the diagonal of a Smith form how many ones stand first in it, and where its zeros begin.
func parts(diagonal []api.Int) (ones, ends int) {
	for ones < len(diagonal) && isOne(diagonal[ones]) {
		ones++
	}
	ends = ones
	for ends < len(diagonal) && isNotZero(diagonal[ends]) {
		ends++
	}
	return ones, ends
}

// diagonalOf is what stands on the diagonal of a sound matrix.
func diagonalOf(a api.Mat) []api.Int {
	list := make([]api.Int, min(a.Rows, a.Cols))
	for i := range list {
		list[i] = a.At[i*a.Cols+i]
	}
	return list
}

// columnsFrom are the columns of a sound matrix from one on.
func columnsFrom(a api.Mat, from int) api.Mat {
	columns, _ := mat.Pick(a, places(0, a.Rows), places(from, a.Cols))
	return columns
}

// places are those from one on, below another.
func places(from, to int) []int {
	list := make([]int, to-from)
	for i := range list {
		list[i] = from + i
	}
	return list
}

// shorten leaves of the first columns of c what they are modulo the factors, all above 0.
func shorten(c api.Mat, factors []api.Int) {
	for i := range c.Rows {
		for j, n := range factors {
			c.At[i*c.Cols+j], _ = zint.Mod(c.At[i*c.Cols+j], n)
		}
	}
}

// invariant is a list of factors in invariant form.
func invariant(factors []api.Int) []api.Int {
	chain := snf.Chain(factors)
	ones, _ := parts(chain)
	return slices.Clone(chain[ones:])
}

// twoGroups are the factors, in invariant form, of two groups by their ranks and factors.
// Most of the factors may fall away so, ahead of what is made of each two of them.
func twoGroups(r int, f []api.Int, s int, g []api.Int) (one, two []api.Int, e api.Errno) {
	if !isGroup(r, f) || !isGroup(s, g) {
		return nil, nil, api.ErrArg
	}
	return invariant(f), invariant(g), api.OK
}

// isGroup says if a rank and factors are within the limits.
func isGroup(rank int, factors []api.Int) bool {
	return rank >= 0 && rank <= api.MaxDim && len(factors) <= api.MaxDim && areFactors(factors)
}

// areFactors says if all numbers are from 1 on.
func areFactors(list []api.Int) bool {
	return !slices.ContainsFunc(list, func(n api.Int) bool { return zint.Sign(n) <= 0 })
}

// divisorsOf are the greatest common divisors of each number of the one list and each of the other.
func divisorsOf(one, two []api.Int) []api.Int {
	var all []api.Int
	for _, n := range one {
		for _, m := range two {
			all = append(all, bezout.Gcd(n, m))
		}
	}
	return all
}

func isOne(n api.Int) bool { return isEqual(n, zint.Of(1)) }

func isEqual(n, m api.Int) bool { return zint.Cmp(n, m) == 0 }
