package modhnf_test

import (
	"slices"
	"testing"

	"trellis/api"
	"trellis/bezout"
	"trellis/check"
	"trellis/hnf"
	"trellis/made"
	"trellis/mat"
)

// P19.1 to P19.4 at all matrices of little shapes, or every so-manieth.
func TestAllSmall(t *testing.T) {
	for _, c := range []struct {
		rows, cols, step int
		entries          []int
	}{
		{1, 1, 1, []int{-4, -3, -2, -1, 0, 1, 2, 3, 4}}, {1, 2, 1, []int{-3, -1, 0, 1, 2}}, {2, 1, 1, []int{-6, -4, -3, -1, 0, 1, 2, 3, 6}}, {3, 1, 1, []int{-6, -4, 0, 1, 3, 10}}, {4, 1, 1, []int{-4, 0, 6, 9}},
		{2, 2, 1, []int{-3, -2, -1, 0, 1, 2, 4}}, {2, 3, 7, []int{-2, -1, 0, 1, 3}}, {3, 2, 7, []int{-2, 0, 1, 3, 4}}, {3, 2, 11, []int{-6, 0, 4, 9, 10}}, {2, 4, 61, []int{-2, 0, 1, 3}}, {4, 2, 61, []int{-2, 0, 3, 4}},
		{3, 3, 101, []int{-1, 0, 1, 2}}, {3, 3, 1009, []int{-6, -2, 0, 3, 4}}, {3, 4, 500, []int{0, 1, -2}}, {4, 3, 500, []int{0, 2, -3}}, {4, 4, 60013, []int{0, 2, -3}}, {4, 4, 97, []int{0, 1}}, {5, 3, 40, []int{0, 2}},
	} {
		for small := range made.SomeSmall(c.rows, c.cols, c.step, c.entries) {
			holdSmall(t, small, c.rows, c.cols)
		}
	}
}

// rising are the places in their order whose lines raise the rank of those before them.
func rising(n int, rank func(places []int) int) []int {
	var all []int
	for i := range n {
		if rank(first(i+1)) > rank(first(i)) {
			all = append(all, i)
		}
	}
	return all
}

// holdSmall holds all calls on one matrix, Volume and Multiple by the words of the chapter: the row set, the pivot columns and the determinants there.
func holdSmall(t *testing.T, small made.Small, rows, cols int) {
	t.Helper()
	a := small.Matrix(cols)
	h := holdRoads(t, a)
	set := rising(rows, func(places []int) int { return small.Rank(places, first(cols)) })
	columns := rising(cols, func(places []int) int { return small.Rank(first(rows), places) })
	check.Same(t, of("do the pivots stand in the pivot columns of Form", a), slices.Equal(leads(h), columns), true)
	core := small.Det(set, columns)
	holdMultiple(t, a, num(max(core, -core)))
	var all []api.Int
	for _, choice := range made.Choices(first(rows), len(columns)) {
		all = append(all, num(small.Det(choice, columns)))
	}
	holdVolume(t, a, bezout.GcdAll(all))
	for _, d := range []int{1, 2, 3, 4, 6, 12, 35} {
		holdModulo(t, a, num(d), basisOfStack(t, a, d))
	}
}

// basisOfStack is the Hermite basis of the matrix that has the rows of a and, below them, d times the unit matrix.
func basisOfStack(t *testing.T, a api.Mat, d int) api.Mat {
	t.Helper()
	tall, e := mat.Stack(a, multiples(num(d), a.Cols))
	check.Same(t, of("Stack", a), e, api.OK)
	basis, e := hnf.Basis(tall)
	check.Same(t, of("hnf.Basis", tall), e, api.OK)
	return basis
}
