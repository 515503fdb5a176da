package lattice_test

import (
	"testing"

	"trellis/api"
	"trellis/check"
	"trellis/lattice"
	"trellis/made"
	"trellis/zint"
)

// smallOf is a matrix of small numbers as the tests' own reckoning takes it.
func smallOf(t *testing.T, a api.Mat) made.Small {
	t.Helper()
	small := make(made.Small, a.Rows)
	for i, n := range a.At {
		v, e := zint.Small(n)
		check.Same(t, "is it a small number", e, api.OK)
		small[i/a.Cols] = append(small[i/a.Cols], int(v))
	}
	return small
}

// P21.1 to P21.3 and P21.6 at all matrices of little shapes, or every so-manieth, and all little rows.
func TestAllSmall(t *testing.T) {
	for _, c := range []struct {
		rows, cols, step int
		entries, list    []int
	}{
		{0, 1, 1, nil, []int{-2, -1, 0, 1, 2}}, {0, 2, 1, nil, []int{-2, 0, 1}}, {2, 0, 1, nil, nil}, {1, 1, 1, []int{-4, -3, -1, 0, 1, 2, 6}, []int{-12, -6, -4, -3, -1, 0, 1, 2, 3, 5, 8, 18}}, {2, 1, 1, []int{-6, -4, -3, 0, 1, 2}, []int{-7, -2, 0, 1, 3, 4, 6}}, {3, 1, 3, []int{-6, 0, 4, 9, 10}, []int{-1, 0, 1, 2, 6}},
		{1, 2, 1, []int{-4, -1, 0, 2, 3}, []int{-4, -2, 0, 1, 3}}, {2, 2, 5, []int{-3, -1, 0, 2, 4}, []int{-3, 0, 1, 2, 4}}, {3, 2, 211, []int{-6, -2, 0, 3, 4}, []int{-2, 0, 1, 6}}, {4, 2, 1511, []int{-2, 0, 4, 6}, []int{-2, 0, 1, 4}},
		{1, 3, 3, []int{-2, 0, 3, 4}, []int{-2, 0, 1, 3}}, {2, 3, 61, []int{-2, 0, 1, 3}, []int{-3, 0, 1, 2}}, {3, 3, 4001, []int{-1, 0, 2, 4}, []int{-1, 0, 2, 3}}, {3, 3, 3001, []int{0, 2, 3, -6}, []int{-3, 0, 1, 2}}, {4, 3, 20011, []int{-2, 0, 3}, []int{0, 1, -2}}, {2, 4, 401, []int{-2, 0, 3, 1}, []int{0, 1, -2}},
	} {
		for small := range made.SomeSmall(c.rows, c.cols, c.step, c.entries) {
			l := made.LatticeOf(small, c.cols)
			holdSmall(t, l)
			lying := 0
			for b := range made.AllSmall(1, c.cols, c.list) {
				lies := l.Has(b[0])
				holdRow(t, l.Matrix(), b.Matrix(c.cols).At, lies)
				if lies {
					lying++
				}
			}
			check.Same(t, of("does the zero row lie in it", l.Matrix()), lying > 0, true)
		}
	}
}

// holdSmall holds the calls on one matrix, by its minors.
func holdSmall(t *testing.T, l made.Lattice) {
	t.Helper()
	a := l.Matrix()
	check.Same(t, of("rows of Kernel and rank", a), holdKernel(t, a).Rows+l.Rank, a.Rows)
	image := smallOf(t, holdImage(t, a))
	check.Same(t, of("does Image lie in it", a), l.Has(image...), true)
	check.Same(t, of("does it lie in Image", a), made.LatticeOf(image, l.Cols).Has(l.Rows...), true)
	saturated := made.LatticeOf(smallOf(t, holdSaturate(t, a)), l.Cols)
	check.Same(t, of("rank of Saturate, and of both", a), [2]int{saturated.Rank, saturated.With(l.Rows...).Rank}, [2]int{l.Rank, l.Rank})
	check.Same(t, of("divisor of Saturate's minors", a), saturated.Minor, 1)
}

// P21.4 and P21.5: every two of some little matrices, by their minors and by all little rows.
func TestAllSmallPairs(t *testing.T) {
	for _, c := range []struct {
		cols, step int
		// The matrices have at most so many rows.
		rows          int
		entries, list []int
	}{
		{0, 1, 2, nil, nil}, {1, 1, 2, []int{-4, 0, 3, 6}, []int{-12, -4, -3, 0, 1, 2, 6}}, {2, 7, 2, []int{-2, 0, 1, 4}, []int{-4, -2, 0, 1, 2, 4}}, {2, 11, 2, []int{-6, 0, 2, 3}, []int{-6, 0, 1, 2, 3, 6}}, {3, 211, 2, []int{-2, 0, 2, 3}, []int{-2, 0, 1, 4}}, {3, 1571, 3, []int{0, 1, -2}, []int{-2, 0, 1, 2}},
	} {
		var all []made.Lattice
		for rows := range c.rows + 1 {
			for small := range made.SomeSmall(rows, c.cols, c.step, c.entries) {
				all = append(all, made.LatticeOf(small, c.cols))
			}
		}
		for _, a := range all {
			for _, b := range all {
				holdSmallPair(t, a, b, c.list)
			}
		}
	}
}

// holdSmallPair holds the calls on two matrices.
func holdSmallPair(t *testing.T, a, b made.Lattice, list []int) {
	t.Helper()
	both := a.With(b.Rows...)
	one, two := a.Matrix(), b.Matrix()
	sum, e := lattice.Sum(one, two)
	holdBasis(t, of("Sum", one, two), sum, e, a.Cols)
	ofSum := made.LatticeOf(smallOf(t, sum), a.Cols)
	check.Same(t, of("does Sum hold both", one, two), ofSum.Has(both.Rows...), true)
	check.Same(t, of("does Sum lie in both together", one, two), both.Has(ofSum.Rows...), true)
	meet, e := lattice.Meet(one, two)
	holdBasis(t, of("Meet", one, two), meet, e, a.Cols)
	ofMeet := made.LatticeOf(smallOf(t, meet), a.Cols)
	check.Same(t, of("does Meet lie in both", one, two), a.Has(ofMeet.Rows...) && b.Has(ofMeet.Rows...), true)
	check.Same(t, of("rank of Meet", one, two), ofMeet.Rank, a.Rank+b.Rank-both.Rank)
	for v := range made.AllSmall(1, a.Cols, list) {
		check.Same(t, at("does a row of both lie in Meet", meet, v.Matrix(a.Cols).At), ofMeet.Has(v[0]), a.Has(v[0]) && b.Has(v[0]))
	}
	if !b.Has(a.Rows...) {
		holdOutside(t, one, two)
		return
	}
	index := 0
	if a.Rank == b.Rank {
		index = a.Minor / b.Minor
	}
	holdIndex(t, one, two, num(index))
}
