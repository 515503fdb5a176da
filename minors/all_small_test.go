package minors_test

import (
	"slices"
	"testing"

	"trellis/api"
	"trellis/check"
	"trellis/made"
	"trellis/minors"
)

// divisor is the greatest common one of two numbers, at least 0.
func divisor(a, b int) int {
	for b != 0 {
		a, b = b, a%b
	}
	return max(a, -a)
}

// lists are all lists of so many places out of n, in any order and more than once.
func lists(n, count int) [][]int {
	all := [][]int{nil}
	for range count {
		var longer [][]int
		for _, list := range all {
			for place := range n {
				longer = append(longer, slices.Concat(list, []int{place}))
			}
		}
		all = longer
	}
	return all
}

// holdSmallMinors holds the minors of a at all lists of at most so many places.
func holdSmallMinors(t *testing.T, a made.Small, cols, most int) {
	t.Helper()
	m := a.Matrix(cols)
	for count := range most + 1 {
		for _, r := range lists(len(a), count) {
			for _, c := range lists(cols, count) {
				holdMinor(t, m, r, c, num(a.Det(r, c)))
			}
		}
	}
}

// holdSmallSizes holds Gcd and Compound of a at each number of rows and columns.
func holdSmallSizes(t *testing.T, a made.Small, cols int) {
	t.Helper()
	m := a.Matrix(cols)
	for k := range min(len(a), cols) + 1 {
		ofRows, ofCols := made.Choices(first(len(a)), k), made.Choices(first(cols), k)
		want := api.Mat{Rows: len(ofRows), Cols: len(ofCols)}
		g := 0
		for _, r := range ofRows {
			for _, c := range ofCols {
				d := a.Det(r, c)
				want.At = append(want.At, num(d))
				g = divisor(g, d)
			}
		}
		holdCompound(t, m, k, want)
		holdGcd(t, m, k, num(g))
	}
}

// holdSmallSquare holds Adjugate and Inverse of a.
func holdSmallSquare(t *testing.T, a made.Small) {
	t.Helper()
	n := len(a)
	det := a.Det(first(n), first(n))
	adj := make([]int, n*n)
	shared := det
	for i := range n {
		for j := range n {
			d := a.Det(slices.Delete(first(n), j, j+1), slices.Delete(first(n), i, i+1))
			adj[i*n+j] = d * (1 - (i+j)%2*2)
			shared = divisor(shared, d)
		}
	}
	m := a.Matrix(n)
	holdAdjugate(t, m, api.Mat{Rows: n, Cols: n, At: nums(adj...)})
	if det == 0 {
		got, e := squareOnly()["Inverse"](m, 0)
		holdRefusal(t, of("Inverse", m), got, e, api.ErrNone)
		return
	}
	if det < 0 {
		shared = -shared
	}
	for i := range adj {
		adj[i] /= shared
	}
	holdInverse(t, m, api.Mat{Rows: n, Cols: n, At: nums(adj...)}, num(det/shared))
}

// P14.2 at all lists of places of small matrices.
func TestMinorsOfAllSmall(t *testing.T) {
	for _, c := range []struct {
		rows, cols, most int
		entries          []int
	}{
		{1, 1, 4, []int{-2, 0, 3}}, {1, 3, 2, []int{-1, 0, 2}}, {3, 1, 2, []int{-1, 0, 2}}, {2, 2, 3, []int{-1, 0, 2}}, {2, 3, 2, []int{-1, 2}},
	} {
		for a := range made.AllSmall(c.rows, c.cols, c.entries) {
			holdSmallMinors(t, a, c.cols, c.most)
		}
	}
	holdSmallMinors(t, made.Small{{2, -3, 5}, {7, 11, -13}, {0, 17, 19}}, 3, 3)
}

// P14.3 and P14.4 at all matrices of small shapes, or at some of them.
func TestSizesOfAllSmall(t *testing.T) {
	for _, c := range []struct {
		rows, cols, step int
		entries          []int
	}{
		{1, 1, 1, []int{-6, -2, 0, 1, 3, 4}}, {1, 3, 1, []int{-6, 0, 4, 9}}, {3, 1, 1, []int{-6, 0, 4, 9}}, {2, 2, 1, []int{-6, 0, 2, 3, 4}}, {2, 3, 1, []int{-1, 0, 2}}, {3, 2, 1, []int{-1, 0, 2}},
		{3, 3, 7, []int{-1, 0, 2}}, {2, 4, 7, []int{-3, 0, 2}}, {4, 2, 7, []int{-3, 0, 2}}, {3, 4, 5, []int{0, 1}}, {4, 3, 5, []int{0, 1}}, {4, 4, 167, []int{0, 1}}, {4, 5, 5009, []int{0, 1}}, {5, 4, 5009, []int{0, 1}},
	} {
		for a := range made.SomeSmall(c.rows, c.cols, c.step, c.entries) {
			holdSmallSizes(t, a, c.cols)
		}
	}
}

// P14.5 and P14.6 at all square matrices of small shapes, or at some of them.
func TestSquaresOfAllSmall(t *testing.T) {
	for _, c := range []struct {
		n, step int
		entries []int
	}{
		{0, 1, []int{0}}, {1, 1, []int{-3, -1, 0, 1, 2, 4}}, {2, 1, []int{-6, -1, 0, 2, 3}}, {3, 5, []int{-1, 0, 2}}, {4, 31, []int{0, 1}}, {4, 50021, []int{-2, 0, 1}}, {5, 20011, []int{0, 1}},
	} {
		for a := range made.SomeSmall(c.n, c.n, c.step, c.entries) {
			holdSmallSquare(t, a)
		}
	}
}

// P14.3: each integer, and each zero, as a matrix of one row and column.
func TestSingle(t *testing.T) {
	for _, n := range append(check.Integers(), check.Zeros()...) {
		a := api.Mat{Rows: 1, Cols: 1, At: []api.Int{n}}
		least := made.Det(a)
		size := api.Int{Mag: least.Mag}
		holdMinor(t, a, first(1), first(1), least)
		holdGcd(t, a, 1, size)
		holdCompound(t, a, 1, api.Mat{Rows: 1, Cols: 1, At: []api.Int{least}})
		holdAdjugate(t, a, mx("1"))
		if len(size.Mag) > 0 {
			holdInverse(t, a, api.Mat{Rows: 1, Cols: 1, At: []api.Int{{Neg: least.Neg, Mag: []uint64{1}}}}, size)
		} else {
			_, _, e := minors.Inverse(a)
			check.Same(t, of("Inverse", a), e, api.ErrNone)
		}
	}
}
