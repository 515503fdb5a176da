package made

import (
	"iter"
	"slices"

	"trellis/api"
	"trellis/check"
)

// Small is a matrix of small numbers, row by row.
type Small [][]int

// AllSmall are all matrices of a shape whose entries are out of a list.
func AllSmall(rows, cols int, entries []int) iter.Seq[Small] {
	return SomeSmall(rows, cols, 1, entries)
}

// SomeSmall are those of all such matrices whose number is a multiple of the step.
func SomeSmall(rows, cols, step int, entries []int) iter.Seq[Small] {
	return func(yield func(Small) bool) {
		count := 1
		for range rows * cols {
			count *= len(entries)
		}
		for number := 0; number < count; number += step {
			if !yield(numbered(rows, cols, number, entries)) {
				return
			}
		}
	}
}

// numbered is the matrix whose entries are the digits of its number.
func numbered(rows, cols, number int, entries []int) Small {
	a := make(Small, rows)
	for i := range a {
		for range cols {
			a[i] = append(a[i], entries[number%len(entries)])
			number /= len(entries)
		}
	}
	return a
}

// Matrix is a as it is handed in; how many columns it has, no rows would not tell.
func (a Small) Matrix(cols int) api.Mat {
	return api.Mat{Rows: len(a), Cols: cols, At: check.Nums(slices.Concat(a...)...)}
}

// Det is the sum, over all ways to pick one entry in each of the rows and each of the columns, of the products, with the sign turned for each pair that stands the wrong way round.
func (a Small) Det(rows, cols []int) int {
	if len(rows) == 0 {
		return 1
	}
	sum := 0
	for place, col := range cols {
		// The columns ahead of this one are picked in later rows: so many pairs stand the wrong way round.
		rest := slices.Delete(slices.Clone(cols), place, place+1)
		sum += (1 - place%2*2) * a[rows[0]][col] * a.Det(rows[1:], rest)
	}
	return sum
}

// Rank is the size of the greatest square of these rows and columns whose determinant is not 0.
func (a Small) Rank(rows, cols []int) int {
	for size := min(len(rows), len(cols)); size > 0; size-- {
		for _, r := range Choices(rows, size) {
			for _, c := range Choices(cols, size) {
				if a.Det(r, c) != 0 {
					return size
				}
			}
		}
	}
	return 0
}

// Choices are all lists of so many of the places, in their order.
func Choices(places []int, count int) [][]int {
	if count == 0 {
		return [][]int{nil}
	}
	var all [][]int
	// Those that begin later have too few places behind them.
	for i, place := range places[:max(0, len(places)-count+1)] {
		for _, rest := range Choices(places[i+1:], count-1) {
			all = append(all, slices.Concat([]int{place}, rest))
		}
	}
	return all
}
