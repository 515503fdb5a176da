package lattice

import (
	"slices"

	"trellis/api"
	"trellis/bezout"
	"trellis/hnf"
	"trellis/mat"
	"trellis/zint"
)

// inSpan is the Hermite basis of those rows of a's lattice that are combinations, by fractions, of the rows of h.
func inSpan(a, h api.Mat) api.Mat {
	// Those are the rows whose products with all that stands upright on h are 0. All these matrices go together, so there are no errors.
	upright, _ := Complement(h)
	columns, _ := mat.Turn(upright)
	products, _ := mat.Mul(a, columns)
	by, _ := Kernel(products)
	rows, _ := mat.Mul(by, a)
	return basisOf(rows)
}

// inLattice is the Hermite basis of those rows of a's lattice that lie in the lattice of a Hermite basis h, in whose span all of them lie.
// At each turn the first column in which there are rests by h is left without any, so there is an end to it. (The kernel of both bases together would tell the same at once, but they may have more rows than a matrix has.)
func inLattice(a, h api.Mat) api.Mat {
	for {
		rests := restsBy(h, a)
		place := firstColumn(rests)
		if place == rests.Cols {
			return a
		}
		// In h's span a row begins where a row of h does, so it is a pivot's column.
		pivots, _ := hnf.Pivots(h)
		i := slices.Index(pivots, place)
		a = multiplesIn(a, columnOf(rests, place), h.At[i*h.Cols+place])
	}
}

// multiplesIn is the Hermite basis of those combinations of a's rows whose numbers, made of those in the column just as the rows are made, are multiples of m.
func multiplesIn(a, numbers api.Mat, m api.Int) api.Mat {
	// What makes the Hermite form of the numbers leaves their greatest common divisor to the first row, and 0 to all others: only of the first row some multiples are to go.
	full, _ := hnf.Full(numbers)
	rows, _ := mat.Mul(full.U, a)
	times, _ := zint.Exact(m, bezout.Gcd(m, full.H.At[0]))
	for j, n := range rows.At[:rows.Cols] {
		rows.At[j] = zint.Mul(times, n)
	}
	return basisOf(rows)
}

// firstColumn is the first column that is not zero, or the one behind all columns.
func firstColumn(a api.Mat) int {
	first := a.Cols
	for i := range a.Rows {
		place := slices.IndexFunc(a.At[i*a.Cols:i*a.Cols+first], isNotZero)
		if place >= 0 {
			first = place
		}
	}
	return first
}

// columnOf is one column of a, as a matrix.
func columnOf(a api.Mat, place int) api.Mat {
	numbers := api.Mat{Rows: a.Rows, Cols: 1}
	for i := range a.Rows {
		numbers.At = append(numbers.At, a.At[i*a.Cols+place])
	}
	return numbers
}
