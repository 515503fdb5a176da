package made

import (
	"slices"

	"trellis/api"
)

// Lattice is that of the rows of a little matrix: its rank, and the greatest common divisor of its minors of so many rows. By these it is told what lies in it, and no call of any layer is asked.
type Lattice struct {
	Rows        Small
	Cols        int
	Rank, Minor int
}

// LatticeOf is the lattice of these rows; how many columns it has, no rows would not tell.
func LatticeOf(rows Small, cols int) Lattice {
	rank := rows.Rank(First(len(rows)), First(cols))
	return Lattice{rows, cols, rank, rows.Divisor(rank, cols)}
}

// With is the lattice of all rows and of others.
func (l Lattice) With(others ...[]int) Lattice {
	return LatticeOf(slices.Concat(l.Rows, others), l.Cols)
}

// Has says if rows lie in the lattice: with them it has no greater rank, and no lesser divisor of its minors.
func (l Lattice) Has(others ...[]int) bool {
	more := l.With(others...)
	return more.Rank == l.Rank && more.Minor == l.Minor
}

// Matrix is that of the rows.
func (l Lattice) Matrix() api.Mat {
	return l.Rows.Matrix(l.Cols)
}

// Divisor is the greatest common divisor of all minors of so many rows and so many columns.
func (a Small) Divisor(size, cols int) int {
	divisor := 0
	for _, r := range Choices(First(len(a)), size) {
		for _, c := range Choices(First(cols), size) {
			divisor = commonDivisor(divisor, a.Det(r, c))
		}
	}
	return divisor
}

// commonDivisor is the greatest common divisor of two numbers.
func commonDivisor(a, b int) int {
	for b != 0 {
		a, b = b, a%b
	}
	return max(a, -a)
}
