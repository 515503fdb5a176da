package group

import (
	"iter"

	"trellis/api"
	"trellis/hnf"
	"trellis/zint"
)

// fewPivots are the pivots of the Hermite basis of a's lattice, one in each column, if their product, which is how many classes there are, is within MaxList.
func fewPivots(a api.Mat) ([]int64, api.Errno) {
	basis, e := hnf.Basis(a)
	if e != api.OK {
		return nil, e
	}
	if basis.Rows < basis.Cols {
		return nil, api.ErrLarge
	}
	pivots := make([]int64, basis.Cols)
	count := int64(1)
	for i, n := range diagonalOf(basis) {
		small, e := zint.Small(n)
		// Held against each other by division, so that no product is made that is too large to tell.
		if e != api.OK || small > api.MaxList/count {
			return nil, api.ErrLarge
		}
		pivots[i] = small
		count *= small
	}
	return pivots, api.OK
}

// rowsBelow are all lists of numbers from 0 on, each below the bound at its place, in dictionary order. They come in one memory, each over the one before.
func rowsBelow(bounds []int64) iter.Seq[[]int64] {
	return func(yield func([]int64) bool) {
		row := make([]int64, len(bounds))
		for more := true; more; more = step(row, bounds) {
			if !yield(row) {
				return
			}
		}
	}
}

// step makes of such a list the next one; it says false where that was the last.
func step(row, bounds []int64) bool {
	for i := len(row) - 1; i >= 0; i-- {
		row[i]++
		if row[i] < bounds[i] {
			return true
		}
		row[i] = 0
	}
	return false
}

// integers are the numbers as a row of its own.
func integers(numbers []int64) []api.Int {
	row := make([]api.Int, len(numbers))
	for i, n := range numbers {
		row[i] = zint.Of(n)
	}
	return row
}
