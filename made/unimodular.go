package made

import (
	"trellis/api"
	"trellis/check"
	"trellis/mat"
	"trellis/zint"
)

// Unimodular is a unimodular matrix of n rows, its inverse and its determinant: a lower triangle, an order of the rows with signs, an upper triangle.
func (s *Source) Unimodular(n int) (u, inverse api.Mat, det api.Int) {
	lower, upper := s.triangle(n), s.triangle(n)
	middle, det := s.ordered(n)
	u = Product(lower, middle, Turned(upper))
	// Turned, an order with signs is its own inverse.
	inverse = Product(Turned(undone(upper)), Turned(middle), undone(lower))
	return u, inverse, det
}

// triangle is a lower triangle of n rows with 1 on its diagonal. Far from the diagonal it has zeros, so that the numbers of large products stay small.
func (s *Source) triangle(n int) api.Mat {
	a, _ := mat.Unit(n)
	for i := range n {
		for j := max(0, i-3); j < i; j++ {
			a.At[i*n+j] = s.Next()
		}
	}
	return a
}

// undone is the inverse of such a triangle.
func undone(a api.Mat) api.Mat {
	n := a.Rows
	inverse, _ := mat.Unit(n)
	for i := range n {
		for j := range i {
			for k := j; k < i; k++ {
				product := zint.Mul(a.At[i*n+k], inverse.At[k*n+j])
				inverse.At[i*n+j] = zint.Sub(inverse.At[i*n+j], product)
			}
		}
	}
	return inverse
}

// ordered is a matrix with one entry, 1 or -1, in each row and each column, and its determinant.
func (s *Source) ordered(n int) (a api.Mat, det api.Int) {
	a, _ = mat.Zero(n, n)
	order := s.Order(n)
	odd := IsOdd(order)
	for i, j := range order {
		neg := s.Word()%2 == 1
		odd = odd != neg
		a.At[i*n+j] = api.Int{Neg: neg, Mag: []uint64{1}}
	}
	if odd {
		return a, check.Num(-1)
	}
	return a, check.Num(1)
}

// Chain is a list of n numbers above 0, each of which divides the next.
func (s *Source) Chain(n int) []api.Int {
	var list []api.Int
	number := zint.Of(1)
	for range n {
		// Often the same again, so that long lists end with no too long a number.
		if s.Word()%4 == 0 {
			number = zint.Mul(number, zint.Add(zint.Abs(s.Next()), zint.Of(1)))
		}
		list = append(list, number)
	}
	return list
}

// Smith is the matrix of this shape with the list on its diagonal, between two unimodular ones.
func (s *Source) Smith(rows, cols int, list []api.Int) api.Mat {
	left, _, _ := s.Unimodular(rows)
	right, _, _ := s.Unimodular(cols)
	diag, _ := mat.Diag(rows, cols, list)
	return Product(left, diag, right)
}

// Hermite is a matrix of this shape in Hermite form, with its pivots in these columns.
func (s *Source) Hermite(rows, cols int, pivots []int) api.Mat {
	a, _ := mat.Zero(rows, cols)
	for i, c := range pivots {
		pivot := zint.Add(zint.Abs(s.Next()), zint.Of(1))
		for k := range i {
			a.At[k*cols+c], _ = zint.Mod(s.Next(), pivot)
		}
		a.At[i*cols+c] = pivot
		for j := c + 1; j < cols; j++ {
			a.At[i*cols+j] = s.Next()
		}
	}
	return a
}
