package lll_test

import (
	"testing"

	"trellis/api"
	"trellis/check"
	"trellis/lll"
	"trellis/made"
	"trellis/mat"
	"trellis/zint"
)

// P23.4: of a list on the diagonal, between two unimodular matrices, a reduced basis is found whatever the shape and the rank.
func TestOfAllShapes(t *testing.T) {
	for _, shape := range made.Shapes() {
		s := made.SourceFor(shape)
		a := made.Disguised(s.Smith(shape[0], shape[1], s.Chain(shape[2])))
		b, _ := holdReduce(t, a)
		check.Same(t, of("rank", a), b.Rows, shape[2])
		holdBounds(t, b)
	}
}

// P23.3, P23.4 and P23.6: rows at right angles, mixed by a unimodular matrix: the shortest of them comes back, and their last determinant.
func TestRightAnglesComeBack(t *testing.T) {
	for _, shape := range made.Shapes() {
		s := made.SourceFor(shape)
		rows, cols, rank := shape[0], shape[1], shape[2]
		var list []api.Int
		least, last := num(0), num(1)
		for i := range rank {
			n := s.NotZero()
			square := zint.Mul(n, n)
			list = append(list, n)
			last = zint.Mul(last, square)
			if i == 0 || zint.Cmp(square, least) < 0 {
				least = square
			}
		}
		mix, _, _ := s.Unimodular(rows)
		columns := s.Order(cols)
		a, _ := mat.Pick(diagOf(rows, cols, list), s.Order(rows), columns)
		a = made.Disguised(product(mix, a))
		b, _ := holdReduce(t, a)
		check.Int(t, of("the last of Dets of b", a), lastDet(b), last)
		if rank > 0 && rank <= api.MaxShort {
			holdLeast(t, a, least)
		}
	}
}

// ladder is a basis of n rows whose ci stand upright on one another and are this long, each a little less than half along those above it.
func ladder(n, long int) api.Mat {
	b := diagOf(n, n, check.Filled(1, n, nums(long)).At)
	for i := range n {
		for j := range i {
			b.At[i*n+j] = num((long/2 - i + j) * (1 - (i+j)%2*2))
		}
	}
	return b
}

// P23.3: large bases that are reduced, and that are no longer when one number of theirs goes beyond a half.
func TestLargeBases(t *testing.T) {
	for _, n := range []int{2, 3, 7, 20, 64} {
		b := ladder(n, 200)
		holdIsReduced(t, b, true)
		for _, place := range [][2]int{{1, 0}, {n - 1, 0}, {n - 1, n - 2}, {n / 2, n/2 - 1}} {
			i, j := place[0], place[1]
			if j < 0 {
				continue
			}
			for _, c := range []struct {
				n    int
				want bool
			}{{100, true}, {-100, true}, {101, false}, {-101, false}} {
				other, _ := mat.Least(b)
				other.At[i*n+j] = num(c.n)
				holdIsReduced(t, other, c.want)
			}
		}
		check.Int(t, "the last of Dets of a ladder", lastDet(b), zint.Mul(powerOf(200, n), powerOf(200, n)))
	}
}

// powerOf is a number to a power.
func powerOf(n, exponent int) api.Int {
	power, _ := zint.Pow(num(n), exponent)
	return power
}

// P23.5: by a large basis, multiples of its rows with a little beside them are near to themselves.
func TestNearInLargeBases(t *testing.T) {
	for _, n := range []int{2, 5, 20, 64} {
		s := made.Source{Words: 2, Seed: uint64(n)}
		b := ladder(n, 200)
		lying := product(s.Whole(1, n), b).At
		beside := check.Filled(1, n, nums(99, -99, 0, 7)).At
		got, e := lll.Near(b, sumOf(lying, num(1), beside))
		check.Same(t, of("Near", b), e, api.OK)
		check.Ints(t, of("Near", b), got, leastOf(lying))
	}
}

// P23.4 at matrices with long numbers, as they are, with more rows than columns, and with rows more that lie in the lattice.
func TestLongNumbers(t *testing.T) {
	for _, c := range [][3]int{{1, 1, 50}, {2, 2, 60}, {3, 3, 20}, {5, 5, 8}, {8, 8, 4}, {20, 20, 1}, {40, 40, 1}, {64, 64, 0}, {3, 6, 20}, {10, 20, 3}, {20, 64, 1}} {
		rows, cols := c[0], c[1]
		s := made.Source{Words: c[2], Seed: uint64(100*rows + cols)}
		a := s.Whole(rows, cols)
		b, _ := holdReduce(t, a)
		holdBounds(t, b)
		check.Int(t, of("the last of Dets of b", a), lastDet(b), lastDet(a))
		if rows == api.MaxDim {
			continue
		}
		few := made.Source{Seed: 1}
		inside, _ := mat.Stack(a, product(few.Whole(min(3, 64-rows), rows), a))
		alike, _ := holdReduce(t, inside)
		check.Int(t, of("the last of Dets of b", inside), lastDet(alike), lastDet(a))
		outside, _ := mat.Stack(a, s.Whole(1, cols))
		holdReduce(t, outside)
	}
}

// P23.4: of a lattice that has little to reduce, and of one whose rows a Hermite form would leave far longer, with rows that hang together.
func TestBothWays(t *testing.T) {
	s := made.Source{Words: 1, Seed: 1}
	for _, a := range []api.Mat{s.Whole(34, 30), s.OfRank(30, 30, 12), product(s.Whole(16, 12), ladder(12, 1000)), product(unitAndMore(30, 33), s.Whole(30, 30)), made.Turned(s.Whole(12, 13))} {
		b, _ := holdReduce(t, a)
		holdBounds(t, b)
	}
}

// unitAndMore is the unit matrix of n rows with more rows of little numbers among its own, up to as many as asked for.
func unitAndMore(n, rows int) api.Mat {
	s := made.Source{Seed: uint64(n)}
	all, _ := mat.Stack(s.Whole(1, n), unitOf(n), s.Whole(rows-n-1, n))
	return all
}

// P23.6: a matrix of 64 rows with long numbers, of rank 5.
func TestShortestOfMany(t *testing.T) {
	for words := range 3 {
		s := made.Source{Words: words, Seed: uint64(words)}
		basis := ladder(5, 1000)
		wide := product(basis, s.Whole(5, 64))
		mix, _, _ := s.Unimodular(64)
		zeros, _ := mat.Zero(59, 64)
		all, _ := mat.Stack(wide, zeros)
		_, least := holdShortest(t, wide)
		holdLeast(t, product(mix, all), least)
	}
	long := ladder(5, 1000)
	factor := plus(check.Mixed(40, 7)...)
	multiple, _ := mat.Scale(factor, long)
	_, least := holdShortest(t, long)
	holdLeast(t, multiple, zint.Mul(zint.Mul(factor, factor), least))
}
