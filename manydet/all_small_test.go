package manydet_test

import (
	"testing"

	"trellis/api"
	"trellis/made"
)

// smallBound is Bound by the chapter's words, in small numbers.
func smallBound(a made.Small) int {
	bound := 1
	for _, line := range a {
		sum := 0
		for _, n := range line {
			sum += max(n, -n)
		}
		bound *= max(sum, 1)
	}
	return bound
}

// greatestMinor is the size of the largest of all minors of a, that without rows and columns among them.
func greatestMinor(a made.Small, cols int) int {
	most := 1
	for size := range min(len(a), cols) + 1 {
		for _, r := range made.Choices(first(len(a)), size) {
			for _, c := range made.Choices(first(cols), size) {
				d := a.Det(r, c)
				most = max(most, d, -d)
			}
		}
	}
	return most
}

// replaced is a with b in the place of row i.
func replaced(a made.Small, i int, b []int) made.Small {
	other := append(made.Small{}, a...)
	other[i] = b
	return other
}

// holdSmallSquare holds Det and Residues of a.
func holdSmallSquare(t *testing.T, a made.Small) {
	t.Helper()
	n := len(a)
	det := a.Det(first(n), first(n))
	holdDet(t, a.Matrix(n), num(det), 2)
	ps := []int{7, 2, 46337, 3, 2, 101}
	var given, residues []uint64
	for _, p := range ps {
		given = append(given, uint64(p))
		residues = append(residues, uint64((det%p+p)%p))
	}
	holdResidues(t, a.Matrix(n), given, residues, 3)
}

// holdSmallCramer holds Cramer of a and b.
func holdSmallCramer(t *testing.T, a made.Small, b []int) {
	t.Helper()
	n := len(a)
	det := a.Det(first(n), first(n))
	if det == 0 {
		holdNoCramer(t, a.Matrix(n), nums(b...), 2, api.ErrNone)
		return
	}
	var x []api.Int
	for i := range n {
		x = append(x, num(replaced(a, i, b).Det(first(n), first(n))))
	}
	holdCramer(t, a.Matrix(n), nums(b...), x, num(det), 2)
}

// P15.1 and P15.4 at all matrices of small shapes, or at some of them.
func TestBoundAndRankOfAllSmall(t *testing.T) {
	for _, c := range []struct {
		rows, cols, step int
		entries          []int
	}{
		{0, 3, 1, []int{0}}, {3, 0, 1, []int{0}}, {1, 1, 1, []int{-2, -1, 0, 1, 2}}, {1, 3, 1, []int{-1, 0, 2}}, {3, 1, 1, []int{-1, 0, 2}},
		{2, 2, 1, []int{-3, -1, 0, 1, 2}}, {2, 3, 1, []int{-1, 0, 2}}, {3, 2, 1, []int{-1, 0, 2}}, {3, 3, 7, []int{-1, 0, 2}}, {3, 4, 5, []int{0, 1}}, {4, 3, 5, []int{0, 1}}, {4, 4, 97, []int{0, 1}},
	} {
		for a := range made.SomeSmall(c.rows, c.cols, c.step, c.entries) {
			m, bound := a.Matrix(c.cols), smallBound(a)
			holdBound(t, m, num(bound))
			if most := greatestMinor(a, c.cols); most > bound {
				t.Errorf("%s: %d, but a minor has the size %d", of("Bound", m), bound, most)
			}
			holdRank(t, m, a.Rank(first(c.rows), first(c.cols)), 2)
		}
	}
}

// P15.3 to P15.5 at all square matrices of small shapes, or at some of them.
func TestSquaresOfAllSmall(t *testing.T) {
	for _, c := range []struct {
		n, step int
		entries []int
	}{
		{0, 1, []int{0}}, {1, 1, []int{-3, -1, 0, 1, 2, 4}}, {2, 1, []int{-6, -1, 0, 2, 3}}, {3, 11, []int{-1, 0, 2}}, {4, 97, []int{0, 1}}, {4, 100043, []int{-2, 0, 1}}, {5, 50021, []int{0, 1}},
	} {
		for a := range made.SomeSmall(c.n, c.n, c.step, c.entries) {
			holdSmallSquare(t, a)
			for _, b := range [][]int{{1, 0, 0, 0, 0}, {-2, 3, 0, 5, 1}} {
				holdSmallCramer(t, a, b[:c.n])
			}
		}
	}
}
