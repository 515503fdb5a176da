package lattice_test

import (
	"slices"
	"testing"

	"trellis/api"
	"trellis/check"
	"trellis/lattice"
	"trellis/made"
	"trellis/zint"
)

// The lattices of little matrices, told by minors: no call of any layer is asked for what lies in them.

// smallLattice is that of the rows of a little matrix: its rank, and the greatest common divisor of its minors of so many rows.
type smallLattice struct {
	rows        made.Small
	cols        int
	rank, minor int
}

func latticeOf(rows made.Small, cols int) smallLattice {
	l := smallLattice{rows: rows, cols: cols, rank: rows.Rank(first(len(rows)), first(cols))}
	for _, r := range made.Choices(first(len(rows)), l.rank) {
		for _, c := range made.Choices(first(cols), l.rank) {
			l.minor = divisor(l.minor, rows.Det(r, c))
		}
	}
	return l
}

// divisor is the greatest common divisor of two numbers.
func divisor(a, b int) int {
	for b != 0 {
		a, b = b, a%b
	}
	return max(a, -a)
}

// with is the lattice of all rows and of others.
func (l smallLattice) with(others ...[]int) smallLattice {
	return latticeOf(slices.Concat(l.rows, others), l.cols)
}

// has says if rows lie in the lattice: with them it has no greater rank, and no lesser divisor of its minors.
func (l smallLattice) has(others ...[]int) bool {
	more := l.with(others...)
	return more.rank == l.rank && more.minor == l.minor
}

// matrix is that of the rows.
func (l smallLattice) matrix() api.Mat {
	return l.rows.Matrix(l.cols)
}

// smallOf is a matrix of small numbers as the tests' own reckoning takes it.
func smallOf(t *testing.T, a api.Mat) made.Small {
	t.Helper()
	small := make(made.Small, a.Rows)
	for i, n := range a.At {
		v, e := zint.Small(n)
		check.Same(t, "is it a small number", e, api.OK)
		small[i/a.Cols] = append(small[i/a.Cols], int(v))
	}
	return small
}

// P21.1 to P21.3 and P21.6 at all matrices of little shapes, or every so-manieth, and all little rows.
func TestAllSmall(t *testing.T) {
	for _, c := range []struct {
		rows, cols, step int
		entries, list    []int
	}{
		{0, 1, 1, nil, []int{-2, -1, 0, 1, 2}}, {0, 2, 1, nil, []int{-2, 0, 1}}, {2, 0, 1, nil, nil}, {1, 1, 1, []int{-4, -3, -1, 0, 1, 2, 6}, []int{-12, -6, -4, -3, -1, 0, 1, 2, 3, 5, 8, 18}}, {2, 1, 1, []int{-6, -4, -3, 0, 1, 2}, []int{-7, -2, 0, 1, 3, 4, 6}}, {3, 1, 3, []int{-6, 0, 4, 9, 10}, []int{-1, 0, 1, 2, 6}},
		{1, 2, 1, []int{-4, -1, 0, 2, 3}, []int{-4, -2, 0, 1, 3}}, {2, 2, 5, []int{-3, -1, 0, 2, 4}, []int{-3, 0, 1, 2, 4}}, {3, 2, 211, []int{-6, -2, 0, 3, 4}, []int{-2, 0, 1, 6}}, {4, 2, 1511, []int{-2, 0, 4, 6}, []int{-2, 0, 1, 4}},
		{1, 3, 3, []int{-2, 0, 3, 4}, []int{-2, 0, 1, 3}}, {2, 3, 61, []int{-2, 0, 1, 3}, []int{-3, 0, 1, 2}}, {3, 3, 4001, []int{-1, 0, 2, 4}, []int{-1, 0, 2, 3}}, {3, 3, 3001, []int{0, 2, 3, -6}, []int{-3, 0, 1, 2}}, {4, 3, 20011, []int{-2, 0, 3}, []int{0, 1, -2}}, {2, 4, 401, []int{-2, 0, 3, 1}, []int{0, 1, -2}},
	} {
		for small := range made.SomeSmall(c.rows, c.cols, c.step, c.entries) {
			l := latticeOf(small, c.cols)
			holdSmall(t, l)
			lying := 0
			for b := range made.AllSmall(1, c.cols, c.list) {
				lies := l.has(b[0])
				holdRow(t, l.matrix(), b.Matrix(c.cols).At, lies)
				if lies {
					lying++
				}
			}
			check.Same(t, of("does the zero row lie in it", l.matrix()), lying > 0, true)
		}
	}
}

// holdSmall holds the calls on one matrix, by its minors.
func holdSmall(t *testing.T, l smallLattice) {
	t.Helper()
	a := l.matrix()
	check.Same(t, of("rows of Kernel and rank", a), holdKernel(t, a).Rows+l.rank, a.Rows)
	image := smallOf(t, holdImage(t, a))
	check.Same(t, of("does Image lie in it", a), l.has(image...), true)
	check.Same(t, of("does it lie in Image", a), latticeOf(image, l.cols).has(l.rows...), true)
	saturated := latticeOf(smallOf(t, holdSaturate(t, a)), l.cols)
	check.Same(t, of("rank of Saturate, and of both", a), [2]int{saturated.rank, saturated.with(l.rows...).rank}, [2]int{l.rank, l.rank})
	check.Same(t, of("divisor of Saturate's minors", a), saturated.minor, 1)
}

// P21.4 and P21.5: every two of some little matrices, by their minors and by all little rows.
func TestAllSmallPairs(t *testing.T) {
	for _, c := range []struct {
		cols, step int
		// The matrices have at most so many rows.
		rows          int
		entries, list []int
	}{
		{0, 1, 2, nil, nil}, {1, 1, 2, []int{-4, 0, 3, 6}, []int{-12, -4, -3, 0, 1, 2, 6}}, {2, 7, 2, []int{-2, 0, 1, 4}, []int{-4, -2, 0, 1, 2, 4}}, {2, 11, 2, []int{-6, 0, 2, 3}, []int{-6, 0, 1, 2, 3, 6}}, {3, 211, 2, []int{-2, 0, 2, 3}, []int{-2, 0, 1, 4}}, {3, 1571, 3, []int{0, 1, -2}, []int{-2, 0, 1, 2}},
	} {
		var all []smallLattice
		for rows := range c.rows + 1 {
			for small := range made.SomeSmall(rows, c.cols, c.step, c.entries) {
				all = append(all, latticeOf(small, c.cols))
			}
		}
		for _, a := range all {
			for _, b := range all {
				holdSmallPair(t, a, b, c.list)
			}
		}
	}
}

// holdSmallPair holds the calls on two matrices.
func holdSmallPair(t *testing.T, a, b smallLattice, list []int) {
	t.Helper()
	both := a.with(b.rows...)
	one, two := a.matrix(), b.matrix()
	sum, e := lattice.Sum(one, two)
	holdBasis(t, of("Sum", one, two), sum, e, a.cols)
	ofSum := latticeOf(smallOf(t, sum), a.cols)
	check.Same(t, of("does Sum hold both", one, two), ofSum.has(both.rows...), true)
	check.Same(t, of("does Sum lie in both together", one, two), both.has(ofSum.rows...), true)
	meet, e := lattice.Meet(one, two)
	holdBasis(t, of("Meet", one, two), meet, e, a.cols)
	ofMeet := latticeOf(smallOf(t, meet), a.cols)
	check.Same(t, of("does Meet lie in both", one, two), a.has(ofMeet.rows...) && b.has(ofMeet.rows...), true)
	check.Same(t, of("rank of Meet", one, two), ofMeet.rank, a.rank+b.rank-both.rank)
	for v := range made.AllSmall(1, a.cols, list) {
		check.Same(t, at("does a row of both lie in Meet", meet, v.Matrix(a.cols).At), ofMeet.has(v[0]), a.has(v[0]) && b.has(v[0]))
	}
	if !b.has(a.rows...) {
		holdOutside(t, one, two)
		return
	}
	index := 0
	if a.rank == b.rank {
		index = a.minor / b.minor
	}
	holdIndex(t, one, two, num(index))
}
