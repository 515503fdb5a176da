package lattice

import (
	"slices"

	"trellis/api"
	"trellis/bezout"
	"trellis/frac"
	"trellis/hnf"
	"trellis/zint"
)

// column is a column of fractions, all over one number above 0.
type column struct {
	tops  []api.Int
	under api.Int
}

// refuting is a column with which all rows of a Hermite basis have whole products, and a reduced row whose first number that is not 0 is n, at this place, has not.
// It has zeros behind the place, and the row has zeros before it: so the product with the row is n times the one fraction at the place.
func refuting(h api.Mat, place int, n api.Int) column {
	pivots, _ := hnf.Pivots(h)
	above, isPivot := slices.BinarySearch(pivots, place)
	y := column{make([]api.Int, h.Cols), noDivisor(n)}
	y.tops[place] = zint.Of(1)
	if isPivot {
		// The row with this pivot has the product 1. n is less than the pivot, so the pivot does not divide it.
		y.under = h.At[above*h.Cols+place]
	}
	for i, pivot := range slices.Backward(pivots[:above]) {
		y.makeWhole(h.At[i*h.Cols:(i+1)*h.Cols], pivot)
	}
	return y
}

// makeWhole makes the product with a row whole, by the fraction at the row's pivot, which has been 0. The rows below have 0 there, so that their products stay as they are.
func (y *column) makeWhole(row []api.Int, pivot int) {
	// The lengths are the same, and neither under nor a pivot is 0: so there are no errors.
	product, _ := zint.Dot(row, y.tops)
	over, _ := zint.Mod(product, y.under)
	common := bezout.Gcd(over, row[pivot])
	times, _ := zint.Exact(row[pivot], common)
	for j, top := range y.tops {
		y.tops[j] = zint.Mul(top, times)
	}
	y.under = zint.Mul(y.under, times)
	part, _ := zint.Exact(over, common)
	y.tops[pivot] = zint.Neg(part)
}

// fractions are those of the column, in lowest terms.
func (y column) fractions() []api.Frac {
	all := make([]api.Frac, len(y.tops))
	for j, top := range y.tops {
		all[j], _ = frac.Of(top, y.under)
	}
	return all
}

// noDivisor is the least number above 0 that does not divide n, which is not 0.
func noDivisor(n api.Int) api.Int {
	for d := zint.Of(2); ; d = zint.Add(d, zint.Of(1)) {
		if _, e := zint.Exact(n, d); e == api.ErrExact {
			return d
		}
	}
}
