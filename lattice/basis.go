package lattice

import (
	"slices"

	"trellis/api"
	"trellis/hnf"
	"trellis/mat"
	"trellis/zint"
)

// Whatever is handed to these functions is sound, goes together and is in Hermite form where it must be, so there are no errors.

// basisOf is the Hermite basis of a's lattice.
func basisOf(a api.Mat) api.Mat {
	basis, _ := hnf.Basis(a)
	return basis
}

// kernelIn is the kernel's Hermite basis, which stands in the last rows of U.
func kernelIn(full api.Hermite) api.Mat {
	return rowsOf(full.U, rankOf(full.H), full.U.Rows)
}

// rankOf is how many rows of a Hermite form are not zero.
func rankOf(h api.Mat) int {
	pivots, _ := hnf.Pivots(h)
	return len(pivots)
}

// rowsOf are the rows of a from one on, below another, as a copy.
func rowsOf(a api.Mat, from, to int) api.Mat {
	rows, _ := mat.Make(to-from, a.Cols, a.At[from*a.Cols:to*a.Cols])
	return rows
}

// restBy is the rest of a row by a Hermite form.
func restBy(h api.Mat, row []api.Int) []api.Int {
	rest, _, _ := hnf.Reduce(h, row)
	return rest
}

// restsBy are the rests of all rows of a.
func restsBy(h, a api.Mat) api.Mat {
	rests := api.Mat{Rows: a.Rows, Cols: a.Cols}
	for _, row := range mat.Lines(a) {
		rests.At = append(rests.At, restBy(h, row)...)
	}
	return rests
}

// pivotProduct is the product of the pivots of a Hermite basis.
func pivotProduct(h api.Mat) api.Int {
	product := zint.Of(1)
	pivots, _ := hnf.Pivots(h)
	for i, col := range pivots {
		product = zint.Mul(product, h.At[i*h.Cols+col])
	}
	return product
}

func isZero(list []api.Int) bool { return !slices.ContainsFunc(list, isNotZero) }

func isNotZero(n api.Int) bool { return zint.Sign(n) != 0 }
