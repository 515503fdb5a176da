package rref_test

import (
	"fmt"
	"slices"
	"testing"

	"trellis/api"
	"trellis/check"
	"trellis/made"
	"trellis/rref"
)

// pick is the matrix whose entries stand in a list at the places that a says.
func pick(a made.Small, cols int, list []api.Frac) api.QMat {
	q := api.QMat{Rows: len(a), Cols: cols}
	for _, place := range slices.Concat(a...) {
		q.At = append(q.At, list[place])
	}
	return q
}

// P17.3 to P17.7 at all matrices of little shapes, or every so-manieth, with entries out of a few fractions in any terms.
func TestAllSmall(t *testing.T) {
	for _, c := range []struct {
		rows, cols, step int
		entries          string
	}{
		{0, 0, 1, "0"}, {0, 2, 1, "0"}, {2, 0, 1, "0"}, {1, 1, 1, "0 0/-3 1 -4/6 3/2 2/-1"}, {1, 3, 1, "0 1 -2/4 3/2 5/-3"}, {3, 1, 1, "0 1 -2/4 3/2 5/-3"},
		{2, 2, 1, "0/4 1 -1 2/4 -2/3 3/-1"}, {2, 3, 3, "0 1 -2/4 4/-6"}, {3, 2, 3, "0 1 -2/4 4/-6"}, {2, 4, 11, "0 1 -2/4"}, {4, 2, 11, "0 1 -2/4"},
		{3, 3, 13, "0 1 -2/4"}, {3, 3, 211, "0/2 1 1/2 -2/3"}, {3, 4, 1009, "0 1 -1/2"}, {4, 3, 1009, "0 1 -1/2"}, {4, 4, 180001, "0 1 -1/2"}, {4, 4, 661, "0 1/2"},
	} {
		list := row(c.entries)
		for a := range made.SomeSmall(c.rows, c.cols, c.step, first(len(list))) {
			holdAll(t, pick(a, c.cols, list))
		}
	}
}

// holdAll holds the calls on one matrix.
func holdAll(t *testing.T, q api.QMat) {
	t.Helper()
	form, columns := formByMinors(q)
	holdForm(t, q, form, columns)
	rank := len(columns)
	kernel, e := rref.Kernel(q)
	check.Same(t, of("Kernel", q), e, api.OK)
	check.Same(t, of("Kernel", q)+": shape", [2]int{kernel.Rows, kernel.Cols}, [2]int{q.Rows - rank, q.Rows})
	holdReduced(t, of("Kernel", q), kernel, q.Rows-rank)
	check.QMat(t, of("Kernel", q)+" times the matrix", product(kernel, q), filled(kernel.Rows, q.Cols, row("0")))
	for _, b := range sides(q) {
		holdSolution(t, q, b, leads(kernel), rank)
	}
	if q.Rows == q.Cols {
		holdSmallInverse(t, q)
	}
}

// sides are rows that are combinations of q's rows, and such as need not be.
func sides(q api.QMat) [][]api.Frac {
	all := [][]api.Frac{filled(1, q.Cols, row("0/3")).At, filled(1, q.Cols, row("1/2 -2/6 5")).At}
	for j := range q.Cols {
		b := filled(1, q.Cols, row("0")).At
		b[j] = check.Over(-2, 4)
		all = append(all, b)
	}
	return append(all, times(filled(1, q.Rows, row("1 -1 2/3")).At, q), times(filled(1, q.Rows, row("-1/2 3")).At, q))
}

// holdSolution holds Solve: there is one just if b brings no greater rank, and it is 0 at these places.
func holdSolution(t *testing.T, q api.QMat, b []api.Frac, zeros []int, rank int) {
	t.Helper()
	call := of(fmt.Sprint("Solve of ", b), q)
	x, e := rref.Solve(q, b)
	if rankOf(api.QMat{Rows: q.Rows + 1, Cols: q.Cols, At: slices.Concat(q.At, b)}) > rank {
		holdRefusal(t, call, x, e, api.ErrNone)
		return
	}
	check.Same(t, call, e, api.OK)
	check.Same(t, call+": how many", len(x), q.Rows)
	low := inLowestTerms(api.QMat{Cols: q.Rows, Rows: 1, At: x}).At
	check.Fracs(t, call+": lowest terms", x, low)
	check.Fracs(t, call+": product", times(x, q), inLowestTerms(api.QMat{At: b}).At)
	for _, place := range zeros {
		check.Frac(t, fmt.Sprintf("%s: place %d", call, place), x[place], check.Over(0, 1))
	}
}

// holdSmallInverse holds Inverse against the minors that leave out one row and one column.
func holdSmallInverse(t *testing.T, q api.QMat) {
	t.Helper()
	all := first(q.Rows)
	det := minor(q, all, all)
	if isZero(det) {
		got, e := inverse(q)
		holdRefusal(t, of("Inverse", q), got, e, api.ErrNone)
		return
	}
	want := api.QMat{Rows: q.Rows, Cols: q.Cols}
	for i := range all {
		for j := range all {
			rest := minor(q, slices.Delete(slices.Clone(all), j, j+1), slices.Delete(slices.Clone(all), i, i+1))
			if (i+j)%2 == 1 {
				rest = lessOf(check.Over(0, 1), rest)
			}
			want.At = append(want.At, overOf(rest, det))
		}
	}
	holdInverse(t, q, want)
}

// P17.2 at all pairs of little matrices: each entry is the sum of the products.
func TestMulOfAllSmall(t *testing.T) {
	list := row("0/3 1 -2/4 5/-3")
	for rows := range 3 {
		for middle := range 3 {
			for cols := range 3 {
				for a := range made.SomeSmall(rows, middle, 1+3*min(rows*middle/4, 1), first(4)) {
					for b := range made.SomeSmall(middle, cols, 1+4*min(middle*cols/4, 1), first(4)) {
						p, q := pick(a, middle, list), pick(b, cols, list)
						holdMul(t, p, q, product(p, q))
					}
				}
			}
		}
	}
}
