package snf

import (
	"trellis/api"
	"trellis/hnf"
	"trellis/mat"
	"trellis/zint"
)

// diagonalMade are numbers above 0, as many as the rank of a sound matrix says: those that rows and columns, brought to the Hermite form in turn, leave on the diagonal.
// There is an end to it. When rows and columns have had one turn each, a square matrix is left that has an inverse. From then on, the first pivot that does not stand alone in its row and its column becomes a divisor of itself at each turn: if it is a lesser number, that can't go on for ever; if it is the same, it divides its whole line, and stands alone.
// The Hermite form keeps all numbers on the way about as short as the minors of the matrix, where taking rows and columns from one another as they come would let them grow without measure.
func diagonalMade(a api.Mat) []api.Int {
	for {
		// What was made is sound, so there are no errors.
		basis, _ := hnf.Basis(a)
		if isDiagonal(basis) {
			return diagonal(basis)
		}
		a, _ = mat.Turn(basis)
	}
}

// isDiagonal says if a sound matrix has 0 wherever it has no diagonal.
func isDiagonal(a api.Mat) bool {
	for i, line := range mat.Lines(a) {
		for j, n := range line {
			if i != j && zint.Sign(n) != 0 {
				return false
			}
		}
	}
	return true
}

// diagonal is what stands on the diagonal of a sound matrix.
func diagonal(a api.Mat) []api.Int {
	list := make([]api.Int, min(a.Rows, a.Cols))
	for i := range list {
		list[i] = a.At[i*a.Cols+i]
	}
	return list
}
