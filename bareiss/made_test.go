package bareiss_test

import (
	"slices"
	"testing"

	"trellis/api"
	"trellis/check"
	"trellis/mat"
	"trellis/zint"
)

// source gives numbers in no order, others for each seed: of so many words, or small ones where there are none.
type source struct {
	words int
	seed  uint64
}

func (s *source) word() uint64 {
	s.seed++
	return check.Mixed(3, s.seed*0x9e3779b97f4a7c15)[2]
}

// next is 0 now and then.
func (s *source) next() api.Int {
	w := s.word()
	if s.words == 0 {
		return num(int(w%7) - 3)
	}
	return zint.Least(api.Int{Neg: w%2 == 0, Mag: check.Mixed(int(w/2%uint64(s.words+1)), s.seed)})
}

// notZero is an odd number.
func (s *source) notZero() api.Int {
	return zint.MulAdd(s.next(), num(2), num(1))
}

// places are so many of the first n, rising.
func (s *source) places(count, n int) []int {
	all := first(n)
	for len(all) > count {
		i := int(s.word() % uint64(len(all)))
		all = slices.Delete(all, i, i+1)
	}
	return all
}

// hanging is a matrix of so many rows whose columns number as many as the row set, which is just this one, and the determinant of the rows of the set.
func (s *source) hanging(rows int, set []int) (a api.Mat, det api.Int) {
	a = api.Mat{Rows: rows, Cols: len(set)}
	det = num(1)
	for i := range rows {
		for _, begins := range set {
			switch {
			case begins < i:
				a.At = append(a.At, s.next())
			case begins == i:
				lead := s.notZero()
				a.At = append(a.At, lead)
				det = zint.Mul(det, lead)
			default:
				a.At = append(a.At, num(0))
			}
		}
	}
	return a, det
}

// square is a matrix of n rows with its determinant, which is not 0: a lower triangle, an order of the columns, an upper triangle.
func (s *source) square(n int) (a api.Mat, det api.Int) {
	lower, det := s.hanging(n, first(n))
	upper, other := s.hanging(n, first(n))
	det = zint.Mul(det, other)
	order := s.order(n)
	if isOdd(order) {
		det = zint.Neg(det)
	}
	turned, _ := mat.Turn(upper)
	ordered, _ := mat.Pick(lower, first(n), order)
	return product(ordered, turned), det
}

// order is an order of the first n places.
func (s *source) order(n int) []int {
	order := first(n)
	for i := range order {
		j := i + int(s.word()%uint64(n-i))
		order[i], order[j] = order[j], order[i]
	}
	return order
}

// isOdd says if an odd number of pairs of the order stands the wrong way round.
func isOdd(order []int) bool {
	odd := false
	for i, place := range order {
		for _, later := range order[i+1:] {
			odd = odd != (later < place)
		}
	}
	return odd
}

// product is that of the matrices.
func product(a api.Mat, others ...api.Mat) api.Mat {
	for _, other := range others {
		a, _ = mat.Mul(a, other)
	}
	return a
}

// cored is a matrix of this shape with this row set and these pivot columns, and the determinant of its core.
func (s *source) cored(rows, cols int, rowSet, pivots []int) (a api.Mat, det api.Int) {
	left, ofLeft := s.hanging(rows, rowSet)
	middle, ofMiddle := s.square(len(rowSet))
	right, ofRight := s.hanging(cols, pivots)
	turned, _ := mat.Turn(right)
	return product(left, middle, turned), zint.Mul(ofLeft, zint.Mul(ofMiddle, ofRight))
}

// disguised is the same matrix, its entries in other forms: with zero words at the high end, with a sign beside 0.
func disguised(a api.Mat) api.Mat {
	other := api.Mat{Rows: a.Rows, Cols: a.Cols}
	for i, n := range a.At {
		if zint.Sign(n) == 0 {
			n.Neg = i%2 == 0
		}
		n.Mag = slices.Concat(n.Mag, make([]uint64, i%4))
		other.At = append(other.At, n)
	}
	return other
}

// P13.2 to P13.4 for matrices whose row set, pivot columns and core are known: of each rank, of numbers of many sizes.
func TestMadeCores(t *testing.T) {
	for _, rows := range []int{1, 2, 3, 5, 8, 13} {
		for _, cols := range []int{1, 2, 3, 5, 8, 13} {
			for rank := range min(rows, cols) + 1 {
				for words := range 4 {
					s := &source{words: words, seed: uint64(rows*100000 + cols*1000 + rank*10 + words)}
					holdMade(t, s, rows, cols, rank)
				}
			}
		}
	}
}

// P13.2 to P13.4 up to 64 rows and columns.
func TestLargeCores(t *testing.T) {
	for _, c := range [][3]int{
		{64, 64, 64}, {64, 64, 63}, {64, 64, 32}, {64, 64, 1}, {64, 64, 0}, {64, 20, 20}, {20, 64, 20}, {64, 20, 13}, {20, 64, 13}, {64, 1, 1}, {1, 64, 1}, {63, 64, 63},
	} {
		holdMade(t, &source{seed: uint64(c[2])}, c[0], c[1], c[2])
	}
}

func holdMade(t *testing.T, s *source, rows, cols, rank int) {
	t.Helper()
	rowSet, pivots := s.places(rank, rows), s.places(rank, cols)
	a, det := s.cored(rows, cols, rowSet, pivots)
	holdCore(t, disguised(a), rowSet, pivots, det)
	if rows != cols {
		return
	}
	if rank < rows {
		det = num(0)
	}
	holdDet(t, disguised(a), det)
}

// orders are orders of the first n places: those that leave all in place, turn all round, move all by one, change neighbours, and such as mix blocks of some.
func orders(s *source, n int) [][]int {
	same, turned, moved := first(n), first(n), first(n)
	slices.Reverse(turned)
	moved = append(moved[n-1:], moved[:n-1]...)
	all := [][]int{same, turned, moved}
	for block := 2; block < 5; block++ {
		var mixed []int
		for len(mixed) < n {
			from := len(mixed)
			for _, place := range s.order(min(block, n-from)) {
				mixed = append(mixed, from+place)
			}
		}
		all = append(all, mixed)
	}
	return all
}

// spread is the matrix of the factors at the places of an order, row by row, and its leading determinants.
func spread(order []int, factors []api.Int) (a api.Mat, leading []api.Int) {
	n := len(order)
	a, _ = mat.Zero(n, n)
	whole := num(1)
	leading = nums(1)
	for i, col := range order {
		a.At[i*n+col] = factors[i]
		whole = zint.Mul(whole, factors[i])
		det := whole
		if isOdd(order[:i+1]) {
			det = zint.Neg(det)
		}
		if slices.Max(order[:i+1]) > i {
			det = num(0)
		}
		leading = append(leading, det)
	}
	return a, leading
}

// P13.1 and P13.5 for matrices whose leading determinants are known: those of the middle one of three, as the first is a lower triangle with 1 on its diagonal, the last an upper one.
func TestMadeLeading(t *testing.T) {
	for _, n := range []int{1, 2, 3, 4, 5, 9, 14, 64} {
		for words := range 3 {
			s := &source{words: words, seed: uint64(100*n + words)}
			// Of 64 rows those with small numbers will do.
			if n == 64 && words > 0 {
				continue
			}
			for _, order := range orders(s, n) {
				holdSpread(t, s, order, false)
				holdSpread(t, s, order, true)
			}
		}
	}
}

// holdSpread makes such a matrix; broken, it has a row of zeros in the midst of its middle one.
func holdSpread(t *testing.T, s *source, order []int, broken bool) {
	t.Helper()
	n := len(order)
	var factors []api.Int
	for range n {
		factors = append(factors, s.notZero())
	}
	if broken {
		factors[n/2] = num(0)
	}
	middle, want := spread(order, factors)
	upper, _ := mat.Turn(s.triangle(n))
	holdLeading(t, disguised(product(s.triangle(n), middle, upper)), want)
}

// triangle is a lower triangle of n rows with 1 on its diagonal.
func (s *source) triangle(n int) api.Mat {
	a, _ := s.hanging(n, first(n))
	for i := range n {
		a.At[i*n+i] = num(1)
	}
	return a
}
