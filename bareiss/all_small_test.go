package bareiss_test

import (
	"iter"
	"slices"
	"testing"

	"trellis/api"
)

// small is a matrix of small numbers, row by row.
type small [][]int

// allSmall are all matrices of a shape whose entries are out of a list.
func allSmall(rows, cols int, entries []int) iter.Seq[small] {
	return func(yield func(small) bool) {
		count := 1
		for range rows * cols {
			count *= len(entries)
		}
		for number := range count {
			a := make(small, rows)
			for i := range a {
				for range cols {
					a[i] = append(a[i], entries[number%len(entries)])
					number /= len(entries)
				}
			}
			if !yield(a) {
				return
			}
		}
	}
}

// matrix is a as it is handed in; how many columns it has, no rows would not tell.
func (a small) matrix(cols int) api.Mat {
	return api.Mat{Rows: len(a), Cols: cols, At: nums(slices.Concat(a...)...)}
}

// det is the sum, over all ways to pick one entry in each of the rows and each of the columns, of the products, with the sign turned for each pair that stands the wrong way round.
func (a small) det(rows, cols []int) int {
	if len(rows) == 0 {
		return 1
	}
	sum := 0
	for place, col := range cols {
		// The columns ahead of this one are picked in later rows: so many pairs stand the wrong way round.
		rest := slices.Delete(slices.Clone(cols), place, place+1)
		sum += (1 - place%2*2) * a[rows[0]][col] * a.det(rows[1:], rest)
	}
	return sum
}

// choices are all lists of so many of the places, rising.
func choices(places []int, count int) [][]int {
	if count == 0 {
		return [][]int{nil}
	}
	var all [][]int
	for i, place := range places {
		for _, rest := range choices(places[i+1:], count-1) {
			all = append(all, slices.Concat([]int{place}, rest))
		}
	}
	return all
}

// rank is the size of the greatest square of these rows and columns whose determinant is not 0.
func (a small) rank(rows, cols []int) int {
	for size := min(len(rows), len(cols)); size > 0; size-- {
		for _, r := range choices(rows, size) {
			for _, c := range choices(cols, size) {
				if a.det(r, c) != 0 {
					return size
				}
			}
		}
	}
	return 0
}

// rises are the places at which a rank of the first ones goes up: what stands there is no combination of what stands ahead.
func rises(n int, rank func(places []int) int) []int {
	var places []int
	for i := range n {
		if rank(first(i+1)) > rank(first(i)) {
			places = append(places, i)
		}
	}
	return places
}

// holdSmallCore holds a's row set, pivot columns and core against its minors.
func holdSmallCore(t *testing.T, a small, cols int) {
	t.Helper()
	rowSet := rises(len(a), func(places []int) int { return a.rank(places, first(cols)) })
	pivots := rises(cols, func(places []int) int { return a.rank(first(len(a)), places) })
	holdCore(t, a.matrix(cols), rowSet, pivots, num(a.det(rowSet, pivots)))
}

// holdSmallLeading holds a's leading determinants, and so its determinant.
func holdSmallLeading(t *testing.T, a small) {
	t.Helper()
	var want []int
	for k := range len(a) + 1 {
		want = append(want, a.det(first(k), first(k)))
	}
	holdLeading(t, a.matrix(len(a)), nums(want...))
}

// P13.2 to P13.4 at all matrices of small shapes.
func TestCoreOfAllSmall(t *testing.T) {
	for _, c := range []struct {
		rows, cols int
		entries    []int
	}{
		{1, 1, []int{-2, -1, 0, 1, 2}}, {1, 3, []int{-1, 0, 2}}, {3, 1, []int{-1, 0, 2}},
		{2, 2, []int{-3, -2, -1, 0, 1, 2, 3}}, {2, 3, []int{-1, 0, 2, 3}}, {3, 2, []int{-1, 0, 2, 3}},
		{3, 3, []int{-1, 0, 2}}, {2, 4, []int{-1, 0, 2}}, {4, 2, []int{-1, 0, 2}}, {3, 4, []int{0, 1}}, {4, 3, []int{0, 1}}, {2, 7, []int{0, 1}}, {7, 2, []int{0, 1}},
	} {
		for a := range allSmall(c.rows, c.cols, c.entries) {
			holdSmallCore(t, a, c.cols)
		}
	}
}

// P13.1 and P13.5 at all square matrices of small shapes.
func TestLeadingOfAllSmall(t *testing.T) {
	for n, entries := range [][]int{{0}, {-2, -1, 0, 1, 2}, {-3, -2, -1, 0, 1, 2, 3}, {-1, 0, 2}, {0, 1}} {
		for a := range allSmall(n, n, entries) {
			holdSmallLeading(t, a)
		}
	}
}
