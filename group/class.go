package group

import (
	"slices"

	"trellis/api"
	"trellis/bezout"
	"trellis/hnf"
	"trellis/mat"
	"trellis/zint"
)

// basisFor is the Hermite basis of a's lattice, which is to go with the row v.
func basisFor(a api.Mat, v []api.Int) (api.Mat, api.Errno) {
	if e := mat.Check(a); e != api.OK {
		return api.Mat{}, e
	}
	if len(v) != a.Cols {
		return api.Mat{}, api.ErrFit
	}
	return hnf.Basis(a)
}

// restBy is the rest of a row by a Hermite basis that it goes with.
func restBy(basis api.Mat, v []api.Int) []api.Int {
	rest, _, _ := hnf.Reduce(basis, v)
	return rest
}

// orderBy is the least multiple of a row, from 1 on, that lies in the lattice of a Hermite basis; 0, if there is none.
// What stands first in the rest can be made to go by the row of the basis that begins there, and by no other: without one no multiple lies in the lattice. What is needed for the place is needed for the whole, and then the rest begins further right: so there is an end to it.
func orderBy(basis api.Mat, v []api.Int) api.Int {
	pivots, _ := hnf.Pivots(basis)
	order := zint.Of(1)
	rest := restBy(basis, v)
	for !isZero(rest) {
		col := slices.IndexFunc(rest, isNotZero)
		row := slices.Index(pivots, col)
		if row < 0 {
			return zint.Of(0)
		}
		times := fewest(rest[col], basis.At[row*basis.Cols+col])
		order = zint.Mul(order, times)
		rest = restBy(basis, multiple(rest, times))
	}
	return order
}

// fewest is the least number from 1 on that makes of n a multiple of a pivot.
func fewest(n, pivot api.Int) api.Int {
	// A pivot is above 0, so there is no error.
	times, _ := zint.Exact(pivot, bezout.Gcd(n, pivot))
	return times
}

// multiple is a row so many times.
func multiple(row []api.Int, times api.Int) []api.Int {
	list := make([]api.Int, len(row))
	for i, n := range row {
		list[i] = zint.Mul(n, times)
	}
	return list
}

func isZero(list []api.Int) bool { return !slices.ContainsFunc(list, isNotZero) }

func isNotZero(n api.Int) bool { return zint.Sign(n) != 0 }
