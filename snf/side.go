package snf

import (
	"trellis/api"
	"trellis/bezout"
	"trellis/mat"
	"trellis/zint"
)

// side is a unimodular matrix by which one side of a matrix is multiplied, and the inverse of it, upended: so whatever is done to the rows of the one, something is done to the same rows of the other.
type side struct{ does, undoes api.Mat }

// unitSide changes nothing; n is a number of rows that a sound matrix has.
func unitSide(n int) side {
	does, _ := mat.Unit(n)
	undoes, _ := mat.Unit(n)
	return side{does, undoes}
}

// then is the side that does what s does, and then what another matrix does of which the inverse is known.
func (s side) then(by, inverse api.Mat) side {
	// All these are square and of one size, so there are no errors.
	does, _ := mat.Mul(by, s.does)
	upended, _ := mat.Turn(inverse)
	undoes, _ := mat.Mul(upended, s.undoes)
	return side{does, undoes}
}

// mix makes of the rows i and j the two sums of them that by says.
func (s side) mix(i, j int, by pair) {
	mixRows(s.does, i, j, by)
	mixRows(s.undoes, i, j, by.upendedInverse())
}

// mixRows does so to the rows of one matrix.
func mixRows(a api.Mat, i, j int, by pair) {
	for c := range a.Cols {
		n, m := a.At[i*a.Cols+c], a.At[j*a.Cols+c]
		a.At[i*a.Cols+c] = zint.MulAdd(by[0][0], n, zint.Mul(by[0][1], m))
		a.At[j*a.Cols+c] = zint.MulAdd(by[1][0], n, zint.Mul(by[1][1], m))
	}
}

// pair is two rows of multipliers of two rows, with the determinant 1.
type pair [2][2]api.Int

// upendedInverse is the inverse, with its rows as columns.
func (p pair) upendedInverse() pair {
	return pair{
		{p[1][1], zint.Neg(p[1][0])},
		{zint.Neg(p[0][1]), p[0][0]},
	}
}

// multipliers are those of two rows and of two columns that make of n and m, on the diagonal, their greatest common divisor and their least common multiple. n and m are at least 0, and n does not divide m.
func multipliers(n, m api.Int) (ofRows, ofCols pair) {
	one := zint.Of(1)
	if divides(m, n) {
		// To change places is enough, and leaves the rows as short as they are; a sign in it makes the determinant 1.
		change := pair{{zint.Of(0), one}, {zint.Of(-1), zint.Of(0)}}
		return change, change
	}
	g, x, y := bezout.Ext(n, m)
	// Neither is 0, so there are no errors.
	ofN, _ := zint.Exact(n, g)
	ofM, _ := zint.Exact(m, g)
	ofRows = pair{{x, y}, {zint.Neg(ofM), ofN}}
	ofCols = pair{{one, one}, {zint.Neg(zint.Mul(y, ofM)), zint.Mul(x, ofN)}}
	return ofRows, ofCols
}
