package rref_test

import (
	"slices"
	"testing"

	"trellis/api"
	"trellis/check"
	"trellis/frac"
	"trellis/made"
	"trellis/zint"
)

// What the calls are held against: fractions one by one, and determinants by all ways to pick entries.

// lowest is f in lowest terms.
func lowest(f api.Frac) api.Frac {
	low, _ := frac.Of(f.Num, f.Den)
	return low
}

// inLowestTerms is q with all entries in lowest terms.
func inLowestTerms(q api.QMat) api.QMat {
	return changed(q, lowest)
}

// changed is the matrix of what change makes of each entry.
func changed(q api.QMat, change func(f api.Frac) api.Frac) api.QMat {
	other := api.QMat{Rows: q.Rows, Cols: q.Cols}
	for _, f := range q.At {
		other.At = append(other.At, change(f))
	}
	return other
}

func plusOf(a, b api.Frac) api.Frac {
	sum, _ := frac.Add(a, b)
	return sum
}

func lessOf(a, b api.Frac) api.Frac {
	rest, _ := frac.Sub(a, b)
	return rest
}

func timesOf(a, b api.Frac) api.Frac {
	product, _ := frac.Mul(a, b)
	return product
}

func overOf(a, b api.Frac) api.Frac {
	quotient, _ := frac.Div(a, b)
	return quotient
}

func isZero(f api.Frac) bool {
	return zint.Sign(f.Num) == 0
}

// rowOf is row i of q.
func rowOf(q api.QMat, i int) []api.Frac {
	return q.At[i*q.Cols : (i+1)*q.Cols]
}

// times is the row x times q.
func times(x []api.Frac, q api.QMat) []api.Frac {
	sums := filled(1, q.Cols, row("0")).At
	for i, f := range x {
		// Most entries of some matrices are 0, and add nothing.
		if isZero(f) {
			continue
		}
		for j, g := range rowOf(q, i) {
			sums[j] = plusOf(sums[j], timesOf(f, g))
		}
	}
	return sums
}

// product is that of the matrices.
func product(p api.QMat, others ...api.QMat) api.QMat {
	for _, q := range others {
		whole := api.QMat{Rows: p.Rows, Cols: q.Cols}
		for i := range p.Rows {
			whole.At = append(whole.At, times(rowOf(p, i), q)...)
		}
		p = whole
	}
	return p
}

// unitOf is the unit matrix.
func unitOf(n int) api.QMat {
	return diagonal(filled(1, n, row("1")).At)
}

// diagonal is the square matrix with a list on its diagonal.
func diagonal(list []api.Frac) api.QMat {
	n := len(list)
	q := filled(n, n, row("0"))
	for i, f := range list {
		q.At[i*n+i] = f
	}
	return q
}

// minor is the determinant at these rows and columns.
func minor(q api.QMat, rows, cols []int) api.Frac {
	if len(rows) == 0 {
		return check.Over(1, 1)
	}
	sum := check.Over(0, 1)
	for place, col := range cols {
		entry := q.At[rows[0]*q.Cols+col]
		if isZero(entry) {
			continue
		}
		rest := slices.Delete(slices.Clone(cols), place, place+1)
		term := timesOf(entry, minor(q, rows[1:], rest))
		if place%2 == 1 {
			term = lessOf(check.Over(0, 1), term)
		}
		sum = plusOf(sum, term)
	}
	return sum
}

// rankAt is the size of the greatest minor of these rows and columns that is not 0, and its places.
func rankAt(q api.QMat, rows, cols []int) (size int, r, c []int) {
	for size := min(len(rows), len(cols)); size > 0; size-- {
		for _, r := range made.Choices(rows, size) {
			for _, c := range made.Choices(cols, size) {
				if !isZero(minor(q, r, c)) {
					return size, r, c
				}
			}
		}
	}
	return 0, nil, nil
}

// rankOf is the rank.
func rankOf(q api.QMat) int {
	size, _, _ := rankAt(q, first(q.Rows), first(q.Cols))
	return size
}

// formByMinors is the form with its columns: those at which the rank of the first columns goes up, and, by Cramer's rule, what makes each column of them.
func formByMinors(q api.QMat) (form api.QMat, columns []int) {
	for j := range q.Cols {
		before, _, _ := rankAt(q, first(q.Rows), first(j))
		now, _, _ := rankAt(q, first(q.Rows), first(j+1))
		if now > before {
			columns = append(columns, j)
		}
	}
	form = filled(q.Rows, q.Cols, row("0"))
	_, rows, _ := rankAt(q, first(q.Rows), columns)
	det := minor(q, rows, columns)
	for i := range columns {
		for j := range q.Cols {
			other := slices.Clone(columns)
			other[i] = j
			form.At[i*q.Cols+j] = overOf(minor(q, rows, other), det)
		}
	}
	return form, columns
}

// leads are the places of the first entries of the rows that are not 0, with -1 for a row of zeros.
func leads(q api.QMat) []int {
	var all []int
	for i := range q.Rows {
		all = append(all, slices.IndexFunc(rowOf(q, i), func(f api.Frac) bool { return !isZero(f) }))
	}
	return all
}

// holdReduced asks for a reduced echelon form with so many rows that are not zero, in lowest terms.
func holdReduced(t *testing.T, call string, q api.QMat, rank int) {
	t.Helper()
	check.QMat(t, call+": lowest terms", q, inLowestTerms(q))
	before := -1
	for i, lead := range leads(q) {
		if i >= rank {
			check.Same(t, call+": where a row of zeros begins", lead, -1)
			continue
		}
		if lead <= before {
			t.Errorf("%s: %v: row %d does not begin further right", call, q, i)
			return
		}
		before = lead
		for other := range q.Rows {
			want := check.Over(0, 1)
			if other == i {
				want = check.Over(1, 1)
			}
			check.Frac(t, call+": in the column of a first one", q.At[other*q.Cols+lead], want)
		}
	}
}
