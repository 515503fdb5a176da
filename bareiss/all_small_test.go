package bareiss_test

import (
	"testing"

	"trellis/made"
)

// rises are the places at which a rank of the first ones goes up: what stands there is no combination of what stands ahead.
func rises(n int, rank func(places []int) int) []int {
	var places []int
	for i := range n {
		if rank(first(i+1)) > rank(first(i)) {
			places = append(places, i)
		}
	}
	return places
}

// holdSmallCore holds a's row set, pivot columns and core against its minors.
func holdSmallCore(t *testing.T, a made.Small, cols int) {
	t.Helper()
	rowSet := rises(len(a), func(places []int) int { return a.Rank(places, first(cols)) })
	pivots := rises(cols, func(places []int) int { return a.Rank(first(len(a)), places) })
	holdCore(t, a.Matrix(cols), rowSet, pivots, num(a.Det(rowSet, pivots)))
}

// holdSmallLeading holds a's leading determinants, and so its determinant.
func holdSmallLeading(t *testing.T, a made.Small) {
	t.Helper()
	var want []int
	for k := range len(a) + 1 {
		want = append(want, a.Det(first(k), first(k)))
	}
	holdLeading(t, a.Matrix(len(a)), nums(want...))
}

// P13.2 to P13.4 at all matrices of small shapes.
func TestCoreOfAllSmall(t *testing.T) {
	for _, c := range []struct {
		rows, cols int
		entries    []int
	}{
		{1, 1, []int{-2, -1, 0, 1, 2}}, {1, 3, []int{-1, 0, 2}}, {3, 1, []int{-1, 0, 2}},
		{2, 2, []int{-3, -2, -1, 0, 1, 2, 3}}, {2, 3, []int{-1, 0, 2, 3}}, {3, 2, []int{-1, 0, 2, 3}},
		{3, 3, []int{-1, 0, 2}}, {2, 4, []int{-1, 0, 2}}, {4, 2, []int{-1, 0, 2}}, {3, 4, []int{0, 1}}, {4, 3, []int{0, 1}}, {2, 7, []int{0, 1}}, {7, 2, []int{0, 1}},
	} {
		for a := range made.AllSmall(c.rows, c.cols, c.entries) {
			holdSmallCore(t, a, c.cols)
		}
	}
}

// P13.1 and P13.5 at all square matrices of small shapes.
func TestLeadingOfAllSmall(t *testing.T) {
	for n, entries := range [][]int{{0}, {-2, -1, 0, 1, 2}, {-3, -2, -1, 0, 1, 2, 3}, {-1, 0, 2}, {0, 1}} {
		for a := range made.AllSmall(n, n, entries) {
			holdSmallLeading(t, a)
		}
	}
}
