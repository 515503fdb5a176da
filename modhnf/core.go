package modhnf

import (
	"slices"

	"trellis/api"
	"trellis/bareiss"
	"trellis/mat"
	"trellis/minors"
	"trellis/zint"
)

// core is a sound matrix with its row set, its pivot columns and the determinant of the core that stands there.
type core struct {
	of         api.Mat
	rows, cols []int
	det        api.Int
}

// coreOf is that of a.
func coreOf(a api.Mat) (core, api.Errno) {
	rows, cols, det, e := bareiss.Core(a)
	return core{a, rows, cols, det}, e
}

// basis is the Hermite basis of the lattice of the pivot columns alone. The rows of the core by themselves make all rows of multiples of the determinant, so to reckon modulo the determinant takes no row in that is not there.
func (c core) basis() api.Mat {
	return basisModulo(c.picked(places(c.of.Rows), c.cols), c.det)
}

// form is the Hermite form of the whole matrix: the basis in the pivot columns, and in the others what goes with it there.
func (c core) form() api.Mat {
	basis, others := c.basis(), c.others()
	// Its shape is that of a sound matrix, so there is no error.
	h, _ := mat.Zero(c.of.Rows, c.of.Cols)
	lay(h, basis, c.cols)
	// Without other columns the core's adjugate, which is the most work, would be for nothing.
	if len(others) > 0 {
		lay(h, c.along(basis, others), others)
	}
	return h
}

// along is what rows of the lattice, of which it is known what they have in the pivot columns, have in other columns. The rows of the core make each row of the lattice, by fractions, in just one way, which the pivot columns tell: what is known, times the inverse of the core, and that is its adjugate over its determinant.
func (c core) along(known api.Mat, others []int) api.Mat {
	// All these are square or go together, so there are no errors.
	adjugate, _ := minors.Adjugate(c.picked(c.rows, c.cols))
	by, _ := mat.Mul(adjugate, c.picked(c.rows, others))
	sums, _ := mat.Mul(known, by)
	for i, n := range sums.At {
		// What is left are entries of the lattice's rows, whole numbers.
		sums.At[i], _ = zint.Exact(n, c.det)
	}
	return sums
}

// others are the columns that are no pivot columns.
func (c core) others() []int {
	return slices.DeleteFunc(places(c.of.Cols), func(j int) bool { return slices.Contains(c.cols, j) })
}

// picked is what stands at these rows and columns, which the matrix has.
func (c core) picked(rows, cols []int) api.Mat {
	part, _ := mat.Pick(c.of, rows, cols)
	return part
}

// places are the numbers from 0 to n - 1.
func places(n int) []int {
	all := make([]int, n)
	for i := range all {
		all[i] = i
	}
	return all
}

// lay puts the columns of part into these columns of h, from its first row on.
func lay(h, part api.Mat, cols []int) {
	for i := range part.Rows {
		for k, j := range cols {
			h.At[i*h.Cols+j] = part.At[i*part.Cols+k]
		}
	}
}
