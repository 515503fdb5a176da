package hnf

import (
	"trellis/api"
	"trellis/zint"
)

// hand has the lines of one matrix in its keeping. Its functions tell it what is done to the rows, and it does to its lines what goes with that.
type hand struct {
	// exchange: rows i and j change places.
	exchange func(i, j int)
	// negate: row i is taken times -1.
	negate func(i int)
	// less: row j is taken from row i, as often as times says.
	less func(i, j int, times api.Int)
	// mix: rows i and j become the two sums of them that by says.
	mix func(i, j int, by pair)
}

// pair is two rows of multipliers of two rows, with the determinant 1.
type pair [2][2]api.Int

// along does the same to its lines that is done to the rows.
func along(all lines) hand {
	return hand{
		exchange: func(i, j int) { all[i], all[j] = all[j], all[i] },
		negate: func(i int) {
			for c, n := range all[i] {
				all[i][c] = zint.Neg(n)
			}
		},
		less: func(i, j int, times api.Int) { takeOff(all[i], all[j], times) },
		mix:  func(i, j int, by pair) { mixLines(all[i], all[j], by) },
	}
}

// against has its matrix upended, and undoes in it what is done to the rows: a matrix that was the inverse of another stays its inverse.
func against(upended lines) hand {
	same := along(upended)
	return hand{
		// Upended, these two are their own inverses.
		exchange: same.exchange,
		negate:   same.negate,
		less:     func(i, j int, times api.Int) { same.less(j, i, zint.Neg(times)) },
		mix:      func(i, j int, by pair) { same.mix(i, j, by.upendedInverse()) },
	}
}

// upendedInverse is the inverse, with its rows as columns.
func (p pair) upendedInverse() pair {
	return pair{
		{p[1][1], zint.Neg(p[1][0])},
		{zint.Neg(p[0][1]), p[0][0]},
	}
}

// mixLines makes of two lines the two sums of them that by says.
func mixLines(line, other []api.Int, by pair) {
	for c := range line {
		n, m := line[c], other[c]
		if isZero(n) && isZero(m) {
			continue
		}
		line[c] = zint.MulAdd(by[0][0], n, zint.Mul(by[0][1], m))
		other[c] = zint.MulAdd(by[1][0], n, zint.Mul(by[1][1], m))
	}
}
