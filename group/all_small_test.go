package group_test

import (
	"testing"

	"trellis/api"
	"trellis/check"
	"trellis/made"
)

// smallGroup is what minors tell of the group of a little lattice: the rank, and the factors, each a divisor of all minors over that of the lesser ones.
func smallGroup(l made.Lattice) (rank int, factors []api.Int) {
	for k := 1; k <= l.Rank; k++ {
		factors = append(factors, num(l.Rows.Divisor(k, l.Cols)/l.Rows.Divisor(k-1, l.Cols)))
	}
	return l.Cols - l.Rank, above(factors)
}

// smallOrder is the least number of times from 1 on that a row lies in a lattice, by trying each; 0, if the row makes the rank greater.
func smallOrder(l made.Lattice, v []int) int {
	if l.With(v).Rank > l.Rank {
		return 0
	}
	for k := 1; ; k++ {
		times := make([]int, len(v))
		for i, n := range v {
			times[i] = k * n
		}
		if l.Has(times) {
			return k
		}
	}
}

// P22.1 to P22.7 at all matrices of little shapes, or every so-manieth, and all little rows.
func TestAllSmall(t *testing.T) {
	for _, c := range []struct {
		rows, cols, step int
		entries, list    []int
	}{
		{0, 1, 1, nil, []int{-2, 0, 1}}, {0, 2, 1, nil, []int{-2, 0, 1}}, {2, 0, 1, nil, nil}, {1, 1, 1, []int{-4, -3, -1, 0, 1, 2, 6}, []int{-12, -6, -4, -1, 0, 1, 2, 3, 5, 8}}, {2, 1, 1, []int{-6, -4, -3, 0, 1, 2}, []int{-7, -2, 0, 1, 3, 4}}, {3, 1, 3, []int{-6, 0, 4, 9, 10}, []int{-1, 0, 1, 2, 6}},
		{1, 2, 1, []int{-4, -1, 0, 2, 3}, []int{-4, -2, 0, 1, 3}}, {2, 2, 5, []int{-3, -1, 0, 2, 4}, []int{-3, 0, 1, 2, 4}}, {2, 2, 3, []int{-8, 0, 4, 6}, []int{-2, 0, 1, 3}}, {3, 2, 211, []int{-6, -2, 0, 3, 4}, []int{-2, 0, 1, 6}}, {4, 2, 1511, []int{-2, 0, 4, 6}, []int{-2, 0, 1, 4}},
		{1, 3, 3, []int{-2, 0, 3, 4}, []int{-2, 0, 1, 3}}, {2, 3, 61, []int{-2, 0, 1, 3}, []int{-3, 0, 1, 2}}, {2, 3, 67, []int{-4, 0, 2, 6}, []int{-1, 0, 2}}, {3, 3, 4001, []int{-1, 0, 2, 4}, []int{-1, 0, 2}}, {3, 3, 3001, []int{0, 2, 3, -6}, []int{-3, 0, 1}}, {4, 3, 20011, []int{-2, 0, 3}, []int{0, 1, -2}}, {2, 4, 401, []int{-2, 0, 3, 1}, []int{0, 1, -2}},
	} {
		for small := range made.SomeSmall(c.rows, c.cols, c.step, c.entries) {
			holdSmall(t, made.LatticeOf(small, c.cols), c.list)
		}
	}
}

// holdSmall holds the calls on one matrix, and at rows of these numbers.
func holdSmall(t *testing.T, l made.Lattice, list []int) {
	t.Helper()
	a := l.Matrix()
	rank, factors := smallGroup(l)
	c, m := holdGroup(t, a, rank, factors)
	for v := range made.AllSmall(1, l.Cols, list) {
		n := v.Matrix(l.Cols).At
		lying := l.Has(v[0])
		check.Same(t, at("is Rep zero", a, n), isZero(holdRep(t, a, n)), lying)
		check.Same(t, at("is a row told as the zero row is", a, n), isZero(told(c, m, n)), lying)
		holdOrder(t, a, n, num(smallOrder(l, v[0])))
	}
}

// P22.6: every two of some little matrices, with as many columns or not, by their minors.
func TestAllSmallPairs(t *testing.T) {
	var all []made.Lattice
	for _, c := range []struct {
		rows, cols, step int
		entries          []int
	}{
		{0, 0, 1, nil}, {0, 1, 1, nil}, {0, 2, 1, nil}, {1, 0, 1, nil}, {1, 1, 1, []int{0, 1, 2, -2, 3, 4, 6}}, {1, 2, 1, []int{-2, 0, 3, 4}}, {2, 1, 3, []int{-2, 0, 3, 4}}, {2, 2, 7, []int{-2, 0, 2, 3}}, {2, 3, 607, []int{-2, 0, 2, 4, 3}}, {3, 2, 613, []int{-3, 0, 3, 6, 2}}, {3, 3, 1201, []int{0, 2, 1}},
	} {
		for small := range made.SomeSmall(c.rows, c.cols, c.step, c.entries) {
			all = append(all, made.LatticeOf(small, c.cols))
		}
	}
	alike := 0
	for i, one := range all {
		for _, two := range all[i:] {
			rank, factors := smallGroup(one)
			otherRank, others := smallGroup(two)
			same := rank == otherRank && len(factors) == len(others)
			for k := 0; same && k < len(factors); k++ {
				same = isEqual(factors[k], others[k])
			}
			holdSame(t, one.Matrix(), two.Matrix(), same)
			if same && one.Cols != two.Cols {
				alike++
			}
		}
	}
	check.Same(t, "are some alike that have not as many columns", alike > 50, true)
}
