// Package made makes matrices of which it is known what must be answered, for the tests of the layers. No layer calls it.
package made

import (
	"slices"

	"trellis/api"
	"trellis/check"
	"trellis/mat"
	"trellis/zint"
)

// Source gives numbers in no order, others for each seed: of at most so many words, or small ones where there are none.
type Source struct {
	Words int
	Seed  uint64
}

// Word is any word.
func (s *Source) Word() uint64 {
	s.Seed++
	return check.Mixed(3, s.Seed*0x9e3779b97f4a7c15)[2]
}

// Next is 0 now and then.
func (s *Source) Next() api.Int {
	w := s.Word()
	if s.Words == 0 {
		return check.Num(int(w%7) - 3)
	}
	return zint.Least(api.Int{Neg: w%2 == 0, Mag: check.Mixed(int(w/2%uint64(s.Words+1)), s.Seed)})
}

// NotZero is an odd number.
func (s *Source) NotZero() api.Int {
	return zint.MulAdd(s.Next(), zint.Of(2), zint.Of(1))
}

// Places are so many of the first n, rising.
func (s *Source) Places(count, n int) []int {
	all := First(n)
	for len(all) > count {
		i := int(s.Word() % uint64(len(all)))
		all = slices.Delete(all, i, i+1)
	}
	return all
}

// Order is an order of the first n places.
func (s *Source) Order(n int) []int {
	order := First(n)
	for i := range order {
		j := i + int(s.Word()%uint64(n-i))
		order[i], order[j] = order[j], order[i]
	}
	return order
}

// Whole is a matrix of this shape.
func (s *Source) Whole(rows, cols int) api.Mat {
	a := api.Mat{Rows: rows, Cols: cols}
	for range rows * cols {
		a.At = append(a.At, s.Next())
	}
	return a
}

// OfRank is a matrix of this shape and at most this rank.
func (s *Source) OfRank(rows, cols, rank int) api.Mat {
	return Product(s.Whole(rows, rank), s.Whole(rank, cols))
}

// First are the places 0 to n - 1.
func First(n int) []int {
	places := make([]int, n)
	for i := range places {
		places[i] = i
	}
	return places
}

// IsOdd says if an odd number of pairs of the order stands the wrong way round.
func IsOdd(order []int) bool {
	odd := false
	for i, place := range order {
		for _, later := range order[i+1:] {
			odd = odd != (later < place)
		}
	}
	return odd
}

// Product is that of the matrices.
func Product(a api.Mat, others ...api.Mat) api.Mat {
	for _, other := range others {
		a, _ = mat.Mul(a, other)
	}
	return a
}

// Det is the sum, over all ways to pick an entry in each row and each column of a, of the products with their signs.
func Det(a api.Mat) api.Int {
	if a.Rows == 0 {
		return zint.Of(1)
	}
	sum := zint.Of(0)
	for j := range a.Cols {
		cols := slices.Delete(First(a.Cols), j, j+1)
		rest, _ := mat.Pick(a, First(a.Rows)[1:], cols)
		term := zint.Mul(a.At[j], Det(rest))
		if j%2 == 1 {
			term = zint.Neg(term)
		}
		sum = zint.Add(sum, term)
	}
	return sum
}

// Turned is a with its rows as columns.
func Turned(a api.Mat) api.Mat {
	turned, _ := mat.Turn(a)
	return turned
}

// Disguised is the same matrix, its entries in other forms: with zero words at the high end, with a sign beside 0.
func Disguised(a api.Mat) api.Mat {
	other := api.Mat{Rows: a.Rows, Cols: a.Cols}
	for i, n := range a.At {
		if zint.Sign(n) == 0 {
			n.Neg = i%2 == 0
		}
		n.Mag = slices.Concat(n.Mag, make([]uint64, i%4))
		other.At = append(other.At, n)
	}
	return other
}
