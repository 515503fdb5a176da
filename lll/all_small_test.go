package lll_test

import (
	"slices"
	"testing"

	"trellis/check"
	"trellis/made"
)

// smallDot is the product of two little rows.
func smallDot(v, w []int) int {
	sum := 0
	for i, n := range v {
		sum += n * w[i]
	}
	return sum
}

// smallGram is the Gram matrix of a little matrix.
func smallGram(a made.Small) made.Small {
	gram := make(made.Small, len(a))
	for i, v := range a {
		for _, w := range a {
			gram[i] = append(gram[i], smallDot(v, w))
		}
	}
	return gram
}

// smallDets are the determinants of the first rows' Gram matrices, by all ways to pick entries.
func smallDets(a made.Small) []int {
	gram := smallGram(a)
	var dets []int
	for k := range len(a) + 1 {
		dets = append(dets, gram.Det(first(k), first(k)))
	}
	return dets
}

// smallIsReduced says if little rows are a reduced basis. With the d of Dets, mu(i, j) is the determinant of the Gram matrix of the first j + 1 rows, the last of them row i on the one side, over d(j+1); and ci . ci is d(i+1) over di.
func smallIsReduced(a made.Small) bool {
	dets := smallDets(a)
	if slices.Contains(dets, 0) {
		return false
	}
	gram := smallGram(a)
	for i := range a {
		for j := range i {
			n := gram.Det(append(first(j), i), first(j+1))
			if 2*n > dets[j+1] || -2*n > dets[j+1] {
				return false
			}
			if j == i-1 && 4*dets[i+1]*dets[i-1] < 3*dets[i]*dets[i]-4*n*n {
				return false
			}
		}
	}
	return true
}

// smallShortest is the least square of a row that is not zero, of a lattice that has one: of all rows that are no longer than the matrix's own ones, those are asked that would be shorter.
func smallShortest(l made.Lattice) int {
	least, span := 0, 0
	for _, v := range l.Rows {
		if square := smallDot(v, v); square > 0 && (least == 0 || square < least) {
			least = square
		}
	}
	for span*span < least {
		span++
	}
	var entries []int
	for n := -span; n <= span; n++ {
		entries = append(entries, n)
	}
	for v := range made.AllSmall(1, l.Cols, entries) {
		if square := smallDot(v[0], v[0]); square > 0 && square < least && l.Has(v[0]) {
			least = square
		}
	}
	return least
}

// P23.1 to P23.4 and P23.6 at all matrices of little shapes, or every so-manieth.
func TestAllSmall(t *testing.T) {
	reduced := 0
	for _, c := range []struct {
		rows, cols, step int
		entries          []int
	}{
		{0, 1, 1, nil}, {0, 3, 1, nil}, {2, 0, 1, nil}, {1, 1, 1, []int{-4, -3, -1, 0, 1, 2, 6}}, {2, 1, 1, []int{-6, -4, -3, 0, 1, 2}}, {3, 1, 1, []int{-6, 0, 4, 9, 10}},
		{1, 2, 1, []int{-4, -1, 0, 2, 3}}, {2, 2, 1, []int{-3, -1, 0, 2, 4}}, {2, 2, 1, []int{-2, -1, 0, 1, 2}}, {2, 2, 3, []int{-8, 0, 5, 6, 7}}, {3, 2, 37, []int{-6, -2, 0, 3, 4}}, {4, 2, 511, []int{-2, 0, 4, 6}},
		{1, 3, 3, []int{-2, 0, 3, 4}}, {2, 3, 7, []int{-2, 0, 1, 3}}, {2, 3, 23, []int{-4, 0, 1, 2, 5}}, {3, 3, 41, []int{-1, 0, 2}}, {3, 3, 701, []int{-1, 0, 2, 4}}, {3, 3, 3001, []int{0, 2, 3, -6, 1}}, {4, 3, 2011, []int{-2, 0, 3}}, {2, 4, 101, []int{-2, 0, 3, 1}}, {3, 4, 1009, []int{-1, 0, 1}}, {4, 4, 400009, []int{0, 2, 1}}, {5, 2, 97, []int{0, 3, 2}},
	} {
		for small := range made.SomeSmall(c.rows, c.cols, c.step, c.entries) {
			l := made.LatticeOf(small, c.cols)
			a := l.Matrix()
			check.Mat(t, of("Gram", a), holdGram(t, a), smallGram(small).Matrix(c.rows))
			check.Ints(t, of("Dets", a), holdDets(t, a), nums(smallDets(small)...))
			holdIsReduced(t, a, smallIsReduced(small))
			check.Same(t, of("by the chapter's words", a), isReducedByWords(a), smallIsReduced(small))
			if smallIsReduced(small) {
				reduced++
			}
			holdReduce(t, a)
			if l.Rank > 0 {
				holdLeast(t, a, num(smallShortest(l)))
			}
		}
	}
	check.Same(t, "are many of them reduced", reduced > 100, true)
}

// P23.5 at little rows of all kinds.
func TestAllSmallNear(t *testing.T) {
	for _, c := range []struct {
		rows, cols, step int
		entries, list    []int
	}{
		{1, 1, 1, []int{-4, -3, 1, 2, 6}, []int{-12, -9, -3, -2, -1, 0, 1, 2, 3, 4, 5, 8, 10}}, {1, 2, 1, []int{-4, -1, 0, 2, 3}, []int{-4, -2, 0, 1, 3}}, {2, 2, 7, []int{-3, -1, 0, 2, 4}, []int{-3, -2, 0, 1, 5}}, {2, 3, 61, []int{-2, 0, 1, 3}, []int{-3, 0, 1, 2}}, {3, 3, 1001, []int{-1, 0, 2, 4}, []int{-1, 0, 2}},
	} {
		for small := range made.SomeSmall(c.rows, c.cols, c.step, c.entries) {
			if slices.Contains(smallDets(small), 0) {
				continue
			}
			for v := range made.AllSmall(1, c.cols, c.list) {
				near := holdNear(t, small.Matrix(c.cols), v.Matrix(c.cols).At)
				check.Same(t, "does it lie in the lattice", lies(small.Matrix(c.cols), near), true)
			}
		}
	}
}
