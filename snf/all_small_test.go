package snf_test

import (
	"slices"
	"testing"

	"trellis/api"
	"trellis/check"
	"trellis/made"
	"trellis/zint"
)

// P20.1 to P20.5 at all matrices of little shapes, or every so-manieth.
func TestAllSmall(t *testing.T) {
	for _, c := range []struct {
		rows, cols, step int
		entries          []int
	}{
		{1, 1, 1, []int{-4, -3, -2, -1, 0, 1, 2, 3, 4}}, {1, 2, 1, []int{-6, -3, -1, 0, 1, 4}}, {2, 1, 1, []int{-6, -4, -3, -1, 0, 1, 2, 3, 6}}, {3, 1, 1, []int{-6, -4, 0, 1, 3, 10}}, {1, 4, 1, []int{-4, 0, 6, 9}},
		{2, 2, 2, []int{-3, -2, -1, 0, 1, 2, 4}}, {2, 2, 3, []int{-12, -8, 0, 6, 9, 10}}, {2, 3, 17, []int{-2, -1, 0, 1, 3}}, {3, 2, 17, []int{-2, 0, 1, 3, 4}}, {3, 2, 19, []int{-6, 0, 4, 9, 10}}, {2, 4, 61, []int{-2, 0, 1, 3}}, {4, 2, 61, []int{-2, 0, 3, 4}},
		{3, 3, 211, []int{-1, 0, 1, 2}}, {3, 3, 2003, []int{-6, -2, 0, 3, 4}}, {3, 3, 2003, []int{0, 2, 4, 8, 12}}, {3, 4, 500, []int{0, 1, -2}}, {4, 3, 500, []int{0, 2, -3}}, {4, 4, 60013, []int{0, 2, -3}}, {4, 4, 97, []int{0, 1}}, {4, 4, 60013, []int{0, 4, 6}}, {5, 3, 40, []int{0, 2}}, {3, 5, 40, []int{0, 3}},
	} {
		for small := range made.SomeSmall(c.rows, c.cols, c.step, c.entries) {
			holdSmall(t, small, c.rows, c.cols)
		}
	}
}

// divisorsOf are, for k from 0 on, the greatest common divisors of all minors of k rows and k columns, by the words of the document.
func divisorsOf(small made.Small, rows, cols int) []api.Int {
	var all []api.Int
	for k := range min(rows, cols) + 1 {
		all = append(all, num(small.Divisor(k, cols)))
	}
	return all
}

// holdSmall holds all calls on one matrix; its form is the one that its minors tell.
func holdSmall(t *testing.T, small made.Small, rows, cols int) {
	t.Helper()
	a := small.Matrix(cols)
	divisors := divisorsOf(small, rows, cols)
	holdDivisors(t, a, divisors)
	var list []api.Int
	for k := 1; k < len(divisors) && zint.Sign(divisors[k]) > 0; k++ {
		n, e := zint.Exact(divisors[k], divisors[k-1])
		check.Same(t, of("does a divisor divide the next", a), e, api.OK)
		list = append(list, n)
	}
	check.Mat(t, of("the form that the minors tell", a), holdAll(t, a), diagOf(rows, cols, list))
}

// P20.7: of each two of some little matrices, as their minors tell.
func TestAllSmallPairs(t *testing.T) {
	for _, c := range []struct {
		rows, cols, step int
		entries          []int
	}{
		{1, 2, 1, []int{-2, 0, 3, 4}}, {2, 2, 5, []int{-2, 0, 2, 3}}, {2, 3, 601, []int{-2, 0, 2, 4, 3}}, {3, 2, 601, []int{-3, 0, 3, 6, 2}}, {3, 3, 997, []int{0, 2, 1}},
	} {
		all := slices.Collect(made.SomeSmall(c.rows, c.cols, c.step, c.entries))
		alike := 0
		for i, one := range all {
			for _, two := range all[i:] {
				same := slices.EqualFunc(divisorsOf(one, c.rows, c.cols), divisorsOf(two, c.rows, c.cols), func(n, m api.Int) bool { return zint.Cmp(n, m) == 0 })
				holdSame(t, one.Matrix(c.cols), two.Matrix(c.cols), same)
				if same {
					alike++
				}
			}
		}
		check.Same(t, "are some alike that are not one", alike > len(all), true)
	}
}
