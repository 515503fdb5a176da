package bareiss_test

import (
	"slices"
	"testing"

	"trellis/api"
	"trellis/made"
	"trellis/mat"
	"trellis/zint"
)

// source gives numbers, and matrices made of them.
type source struct{ made.Source }

func newSource(words int, seed uint64) *source {
	return &source{made.Source{Words: words, Seed: seed}}
}

// hanging is a matrix of so many rows whose columns number as many as the row set, which is just this one, and the determinant of the rows of the set.
func (s *source) hanging(rows int, set []int) (a api.Mat, det api.Int) {
	a = api.Mat{Rows: rows, Cols: len(set)}
	det = num(1)
	for i := range rows {
		for _, begins := range set {
			switch {
			case begins < i:
				a.At = append(a.At, s.Next())
			case begins == i:
				lead := s.NotZero()
				a.At = append(a.At, lead)
				det = zint.Mul(det, lead)
			default:
				a.At = append(a.At, num(0))
			}
		}
	}
	return a, det
}

// square is a matrix of n rows with its determinant, which is not 0: a lower triangle, an order of the columns, an upper triangle.
func (s *source) square(n int) (a api.Mat, det api.Int) {
	lower, det := s.hanging(n, first(n))
	upper, other := s.hanging(n, first(n))
	det = zint.Mul(det, other)
	order := s.Order(n)
	if made.IsOdd(order) {
		det = zint.Neg(det)
	}
	turned, _ := mat.Turn(upper)
	ordered, _ := mat.Pick(lower, first(n), order)
	return product(ordered, turned), det
}

// cored is a matrix of this shape with this row set and these pivot columns, and the determinant of its core.
func (s *source) cored(rows, cols int, rowSet, pivots []int) (a api.Mat, det api.Int) {
	left, ofLeft := s.hanging(rows, rowSet)
	middle, ofMiddle := s.square(len(rowSet))
	right, ofRight := s.hanging(cols, pivots)
	turned, _ := mat.Turn(right)
	return product(left, middle, turned), zint.Mul(ofLeft, zint.Mul(ofMiddle, ofRight))
}

// P13.2 to P13.4 for matrices whose row set, pivot columns and core are known: of each rank, of numbers of many sizes.
func TestMadeCores(t *testing.T) {
	for _, rows := range []int{1, 2, 3, 5, 8, 13} {
		for _, cols := range []int{1, 2, 3, 5, 8, 13} {
			for rank := range min(rows, cols) + 1 {
				for words := range 4 {
					s := newSource(words, uint64(rows*100000+cols*1000+rank*10+words))
					holdMade(t, s, rows, cols, rank)
				}
			}
		}
	}
}

// P13.2 to P13.4 up to 64 rows and columns.
func TestLargeCores(t *testing.T) {
	for _, c := range [][3]int{
		{64, 64, 64}, {64, 64, 63}, {64, 64, 32}, {64, 64, 1}, {64, 64, 0}, {64, 20, 20}, {20, 64, 20}, {64, 20, 13}, {20, 64, 13}, {64, 1, 1}, {1, 64, 1}, {63, 64, 63},
	} {
		holdMade(t, newSource(0, uint64(c[2])), c[0], c[1], c[2])
	}
}

func holdMade(t *testing.T, s *source, rows, cols, rank int) {
	t.Helper()
	rowSet, pivots := s.Places(rank, rows), s.Places(rank, cols)
	a, det := s.cored(rows, cols, rowSet, pivots)
	holdCore(t, made.Disguised(a), rowSet, pivots, det)
	if rows != cols {
		return
	}
	if rank < rows {
		det = num(0)
	}
	holdDet(t, made.Disguised(a), det)
}

// orders are orders of the first n places: those that leave all in place, turn all round, move all by one, change neighbours, and such as mix blocks of some.
func orders(s *source, n int) [][]int {
	same, turned, moved := first(n), first(n), first(n)
	slices.Reverse(turned)
	moved = append(moved[n-1:], moved[:n-1]...)
	all := [][]int{same, turned, moved}
	for block := 2; block < 5; block++ {
		var mixed []int
		for len(mixed) < n {
			from := len(mixed)
			for _, place := range s.Order(min(block, n-from)) {
				mixed = append(mixed, from+place)
			}
		}
		all = append(all, mixed)
	}
	return all
}

// spread is the matrix of the factors at the places of an order, row by row, and its leading determinants.
func spread(order []int, factors []api.Int) (a api.Mat, leading []api.Int) {
	n := len(order)
	a, _ = mat.Zero(n, n)
	whole := num(1)
	leading = nums(1)
	for i, col := range order {
		a.At[i*n+col] = factors[i]
		whole = zint.Mul(whole, factors[i])
		det := whole
		if made.IsOdd(order[:i+1]) {
			det = zint.Neg(det)
		}
		if slices.Max(order[:i+1]) > i {
			det = num(0)
		}
		leading = append(leading, det)
	}
	return a, leading
}

// P13.1 and P13.5 for matrices whose leading determinants are known: those of the middle one of three, as the first is a lower triangle with 1 on its diagonal, the last an upper one.
func TestMadeLeading(t *testing.T) {
	for _, n := range []int{1, 2, 3, 4, 5, 9, 14, 64} {
		for words := range 3 {
			s := newSource(words, uint64(100*n+words))
			// Of 64 rows those with small numbers will do.
			if n == 64 && words > 0 {
				continue
			}
			for _, order := range orders(s, n) {
				holdSpread(t, s, order, false)
				holdSpread(t, s, order, true)
			}
		}
	}
}

// holdSpread makes such a matrix; broken, it has a row of zeros in the midst of its middle one.
func holdSpread(t *testing.T, s *source, order []int, broken bool) {
	t.Helper()
	n := len(order)
	var factors []api.Int
	for range n {
		factors = append(factors, s.NotZero())
	}
	if broken {
		factors[n/2] = num(0)
	}
	middle, want := spread(order, factors)
	upper, _ := mat.Turn(s.triangle(n))
	holdLeading(t, made.Disguised(product(s.triangle(n), middle, upper)), want)
}

// triangle is a lower triangle of n rows with 1 on its diagonal.
func (s *source) triangle(n int) api.Mat {
	a, _ := s.hanging(n, first(n))
	for i := range n {
		a.At[i*n+i] = num(1)
	}
	return a
}
