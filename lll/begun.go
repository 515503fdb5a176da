package lll

import (
	"trellis/api"
	"trellis/bareiss"
	"trellis/hnf"
	"trellis/mat"
	"trellis/nat"
	"trellis/zint"
)

// begun are the rows with which the way to a reduced basis of a sound matrix's lattice begins, in their order: the matrix's own, or its Hermite basis, where that is nearer. Often the one is far nearer than the other.
// How long the way is hangs on how many digits all d have together, as each exchange of rows leaves at most 3/4 of their product.
func begun(a api.Mat) []row {
	// The matrix is sound, so there are no errors.
	basis, _ := hnf.Basis(a)
	if areWithin(basis, mostDigits(a)) {
		return hermiteRows(a)
	}
	return ownRows(a)
}

// ownRows are a's rows, each made of itself.
func ownRows(a api.Mat) []row {
	unit, _ := mat.Unit(a.Rows)
	return rowsOf(a, unit)
}

// hermiteRows are the rows of a's Hermite form, and how they are made of a's rows.
func hermiteRows(a api.Mat) []row {
	full, _ := hnf.Full(a)
	return rowsOf(full.H, full.U)
}

// rowsOf are the rows of a matrix, which are those of by times some matrix.
func rowsOf(a, by api.Mat) []row {
	var rows []row
	for i, line := range mat.Lines(a) {
		rows = append(rows, row{line: line, by: by.At[i*by.Cols : (i+1)*by.Cols]})
	}
	return rows
}

// mostDigits is how many binary digits all d together have at most, of those rows of a that are no combination of rows above them: no d is greater than the product of the squares of the lengths.
func mostDigits(a api.Mat) int {
	set, _ := bareiss.RowSet(a)
	sum, all := 0, 0
	for _, i := range set {
		line := a.At[i*a.Cols : (i+1)*a.Cols]
		square, _ := zint.Dot(line, line)
		sum += nat.BitLen(square.Mag)
		all += sum
	}
	return all
}

// areWithin says if all d of a basis together have fewer than so many binary digits.
func areWithin(basis api.Mat, digits int) bool {
	var f frame
	for i, line := range mat.Lines(basis) {
		f = append(f, f.cast(line, nil))
		digits -= nat.BitLen(f.det(i + 1).Mag)
		if digits <= 0 {
			// There may be far more, at far more cost.
			return false
		}
	}
	return digits > 0
}
