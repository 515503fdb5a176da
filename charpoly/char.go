package charpoly

import (
	"trellis/api"
	"trellis/mat"
	"trellis/zint"
)

// characteristic is the characteristic polynomial of a, which is square, by Samuelson's way, which divides nowhere.
func characteristic(a api.Mat) []api.Int {
	p := []api.Int{zint.Of(1)}
	var first []int
	for k := range a.Rows {
		p = withOneMore(p, a, first)
		first = append(first, k)
	}
	return p
}

// withOneMore is the characteristic polynomial of the first rows and columns of a and the next ones, p being that of the first.
// By its last row and column the determinant is p times the corner, less the product of that row, the adjugate of all else and that column.
func withOneMore(p []api.Int, a api.Mat, first []int) []api.Int {
	k := len(first)
	inner, _ := mat.Pick(a, first, first)
	row, _ := mat.Pick(a, []int{k}, first)
	column, _ := mat.Pick(a, first, []int{k})
	more := Mul(p, []api.Int{zint.Neg(a.At[k*a.Cols+k]), zint.Of(1)})
	for i, part := range adjugateTimes(row.At, inner, p) {
		dot, _ := zint.Dot(part, column.At)
		more[i] = zint.Sub(more[i], dot)
	}
	return more
}

// adjugateTimes is the row times the adjugate of x times the unit matrix less a: the rows of the coefficients of x^0, x^1, and so on. p is the characteristic polynomial of a.
// For p at x less p at a, which is zero, is x less a times the sum of all x^i times p without its first i + 1 coefficients at a.
func adjugateTimes(row []api.Int, a api.Mat, p []api.Int) [][]api.Int {
	return tails(row, p[1:], a)
}

// tails is, for each i, the row times what p without its first i coefficients is at a.
func tails(row, p []api.Int, a api.Mat) [][]api.Int {
	all := make([][]api.Int, len(p))
	tail := make([]api.Int, a.Cols)
	for i := len(p) - 1; i >= 0; i-- {
		tail, _ = mat.VecMul(tail, a)
		for j := range tail {
			tail[j] = zint.MulAdd(p[i], row[j], tail[j])
		}
		all[i] = tail
	}
	return all
}
