package hnf

import (
	"slices"

	"trellis/api"
	"trellis/mat"
	"trellis/zint"
)

// lines are the rows of a matrix, each a list of its own.
type lines [][]api.Int

// linesOf are those of a sound matrix, in memory of their own.
func linesOf(a api.Mat) lines {
	var all lines
	for _, line := range mat.Lines(a) {
		all = append(all, line)
	}
	return all
}

// unitLines are those of the unit matrix of n rows, n being a number of rows that a sound matrix has.
func unitLines(n int) lines {
	unit, _ := mat.Unit(n)
	return linesOf(unit)
}

// matrix is the matrix of these lines, as a copy; how many columns it has, no lines would not tell.
func matrix(all lines, cols int) api.Mat {
	// There are no more lines than a sound matrix has rows or columns, so there is no error.
	a, _ := mat.Make(len(all), cols, slices.Concat(all...))
	return a
}

// leastOf is a copy of a row.
func leastOf(row []api.Int) []api.Int {
	least := make([]api.Int, len(row))
	for i, n := range row {
		least[i] = zint.Least(n)
	}
	return least
}

// takeOff takes other from a line, as often as times says.
func takeOff(line, other []api.Int, times api.Int) {
	for c, n := range other {
		if !isZero(n) {
			line[c] = zint.Sub(line[c], zint.Mul(times, n))
		}
	}
}

// pivotsOf are the columns of the pivots, and whether the lines are in Hermite form: if not, there are none.
func pivotsOf(all lines) (cols []int, is bool) {
	next := 0
	for i, line := range all {
		col := slices.IndexFunc(line, isNotZero)
		if col < 0 {
			// A column that no pivot may have any more: all lines that follow must be zero.
			next = len(line)
			continue
		}
		if col < next || zint.Sign(line[col]) < 0 || !areReduced(all[:i], col, line[col]) {
			return nil, false
		}
		cols = append(cols, col)
		next = col + 1
	}
	return cols, true
}

// areReduced says if all the lines have in a column a number that is reduced by a pivot.
func areReduced(above lines, col int, pivot api.Int) bool {
	return !slices.ContainsFunc(above, func(line []api.Int) bool { return !isReduced(line[col], pivot) })
}

// isReduced says if n is at least 0 and below the pivot.
func isReduced(n, pivot api.Int) bool {
	return zint.Sign(n) >= 0 && zint.Cmp(n, pivot) < 0
}

func isZero(n api.Int) bool { return zint.Sign(n) == 0 }

func isNotZero(n api.Int) bool { return zint.Sign(n) != 0 }
