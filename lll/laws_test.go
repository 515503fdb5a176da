package lll_test

import (
	"testing"

	"trellis/api"
	"trellis/bareiss"
	"trellis/check"
	"trellis/frac"
	"trellis/lll"
	"trellis/made"
	"trellis/mat"
	"trellis/minors"
	"trellis/zint"
)

// someMatrices are of many shapes and all ranks, with numbers of many lengths.
func someMatrices() []api.Mat {
	var all []api.Mat
	for _, shape := range [][2]int{{1, 1}, {1, 4}, {4, 1}, {2, 2}, {3, 3}, {3, 5}, {5, 3}, {6, 6}, {8, 4}, {4, 8}, {9, 7}} {
		for rank := range min(shape[0], shape[1]) + 1 {
			s := made.Source{Words: rank % 3, Seed: uint64(100*shape[0] + 10*shape[1] + rank)}
			all = append(all, s.OfRank(shape[0], shape[1], rank), s.Smith(shape[0], shape[1], s.Chain(rank)))
		}
	}
	return all
}

// P23.2: number k is the sum of the squares of all minors of the first k rows.
func TestDetsByMinors(t *testing.T) {
	for _, a := range someMatrices() {
		for k, n := range holdDets(t, a) {
			sum := num(0)
			for cols := range minors.Sets(a.Cols, k) {
				minor, _ := minors.Minor(a, first(k), cols)
				sum = zint.MulAdd(minor, minor, sum)
			}
			check.Int(t, of("Dets", a), n, sum)
		}
	}
}

// P23.1 and P23.2: rows mixed by a unimodular matrix have a Gram matrix that is mixed on both sides, and the same last determinant.
func TestMixedRows(t *testing.T) {
	for i, a := range someMatrices() {
		s := made.Source{Words: i % 2, Seed: uint64(i)}
		mix, _, _ := s.Unimodular(a.Rows)
		mixed := product(mix, a)
		check.Mat(t, of("Gram", mixed), holdGram(t, mixed), product(mix, holdGram(t, a), made.Turned(mix)))
		check.Int(t, of("the last of Dets", mixed), holdDets(t, mixed)[a.Rows], holdDets(t, a)[a.Rows])
	}
}

// P23.3 and P23.4: a basis that Reduce answers is one, and so it is with its columns in another order, with signs turned, and when it is reduced again.
func TestReducedStaysReduced(t *testing.T) {
	for i, a := range someMatrices() {
		b, _ := holdReduce(t, a)
		s := made.Source{Seed: uint64(i)}
		order, _ := mat.Pick(b, first(b.Rows), s.Order(b.Cols))
		turned, _ := mat.Scale(num(-3), order)
		wide, _ := mat.Beside(turned, order)
		for _, other := range []api.Mat{order, turned, wide} {
			holdIsReduced(t, other, true)
			again, _ := holdReduce(t, other)
			check.Same(t, of("rows of Reduce", other), again.Rows, b.Rows)
		}
	}
}

// P23.3: as the chapter's words say it of rows that are nearly reduced: each less than half of the one above it, or a little more.
func TestNearlyReduced(t *testing.T) {
	counts := [2]int{}
	for seed := range 400 {
		s := made.Source{Seed: uint64(seed)}
		b, _ := holdReduce(t, s.Whole(3, 4))
		if b.Rows < 2 {
			continue
		}
		i := 1 + int(s.Word()%uint64(b.Rows-1))
		scaled, _ := mat.Scale(num(10), b)
		other := sumOf(lineOf(scaled, i), num(int(s.Word()%9)-4), lineOf(b, int(s.Word()%uint64(i))))
		copy(lineOf(scaled, i), other)
		want := isReducedByWords(scaled)
		holdIsReduced(t, scaled, want)
		if want {
			counts[0]++
		} else {
			counts[1]++
		}
	}
	check.Same(t, "are there such and such", counts[0] > 30 && counts[1] > 30, true)
}

// P23.4: a row more that lies in the lattice, rows of zeros, rows twice and in any order have the same lattice; t tells how the basis is made in each case.
func TestSameLattice(t *testing.T) {
	for i, a := range someMatrices() {
		s := made.Source{Words: i % 3, Seed: uint64(i)}
		more := product(s.Whole(2, a.Rows), a)
		zeros, _ := mat.Zero(1, a.Cols)
		order, _ := mat.Pick(a, s.Order(a.Rows), first(a.Cols))
		for _, list := range [][]api.Mat{{a, more}, {more, a}, {zeros, a, zeros}, {a, a}, {order, zeros, more}} {
			stacked, _ := mat.Stack(list...)
			b, _ := holdReduce(t, stacked)
			alike, _ := holdReduce(t, a)
			check.Same(t, of("rows of Reduce", stacked), b.Rows, alike.Rows)
			check.Int(t, of("the last of Dets of Reduce", stacked), lastDet(b), lastDet(alike))
		}
	}
}

// lastDet is the last of b's Dets.
func lastDet(b api.Mat) api.Int {
	dets, _ := lll.Dets(b)
	return dets[b.Rows]
}

// holdBounds asks for what follows from the conditions: the square of the first row's length to the power r is at most 2^(r(r-1)/2) times the last determinant, and the product of all squares too.
func holdBounds(t *testing.T, b api.Mat) {
	t.Helper()
	bound := zint.Mul(powerOf2(b.Rows*(b.Rows-1)/2), lastDet(b))
	ofFirst, all := num(1), num(1)
	for i := range b.Rows {
		ofFirst = zint.Mul(ofFirst, squareOf(lineOf(b, 0)))
		all = zint.Mul(all, squareOf(lineOf(b, i)))
	}
	check.Same(t, of("is the first row short", b), zint.Cmp(ofFirst, bound) <= 0, true)
	check.Same(t, of("are the rows short", b), zint.Cmp(all, bound) <= 0, true)
}

// The whole's P12: the first row of a reduced basis is not much longer than a shortest row of the lattice, which Shortest names.
func TestFirstRow(t *testing.T) {
	longer := 0
	for _, a := range append(someMatrices(), skewLattices()...) {
		b, _ := holdReduce(t, a)
		holdBounds(t, b)
		if b.Rows == 0 || b.Rows > api.MaxShort {
			continue
		}
		_, least := holdShortest(t, a)
		top := squareOf(lineOf(b, 0))
		check.Same(t, of("is the first row's square at most 2^(r-1) times the least", a), zint.Cmp(top, zint.Mul(powerOf2(b.Rows-1), least)) <= 0, true)
		longer += zint.Cmp(top, least)
	}
	check.Same(t, "is the first row sometimes no shortest one", longer > 0, true)
}

// skewLattices have reduced bases of which the first row is long, and such of which none is a shortest row.
func skewLattices() []api.Mat {
	var all []api.Mat
	for _, text := range []string{"2 0 0 0; 1 1 1 0", "2 0 0 0 0; 1 1 1 0 0; 1 0 1 1 0", "10 0 0; 5 9 0; 5 4 8", "100 0 0 0; 50 71 0 0; 50 35 51 0; 50 35 25 37"} {
		all = append(all, mx(text))
	}
	return all
}

// P23.6: the least square is the same for rows that are mixed; of multiples it is as often more; where rows come to others, it does not become greater.
func TestLeastSquares(t *testing.T) {
	for i, a := range append(someMatrices(), skewLattices()...) {
		rank := rankOf(a)
		if rank == 0 || rank > api.MaxShort {
			continue
		}
		_, least := holdShortest(t, a)
		s := made.Source{Words: i % 3, Seed: uint64(i)}
		mix, _, _ := s.Unimodular(a.Rows)
		holdLeast(t, product(mix, a), least)
		k := s.NotZero()
		multiple, _ := mat.Scale(k, a)
		holdLeast(t, multiple, zint.Mul(zint.Mul(k, k), least))
		twice, _ := mat.Beside(a, a)
		holdLeast(t, twice, zint.Mul(num(2), least))
		more, _ := mat.Stack(a, s.Whole(1, a.Cols))
		if got := rankOf(more); got <= api.MaxShort {
			_, other := holdShortest(t, more)
			check.Same(t, of("is it greater with a row more", more), zint.Cmp(other, least) > 0, false)
		}
	}
}

// P23.6: no combination of a reduced basis by little numbers is shorter.
func TestNoneIsShorter(t *testing.T) {
	for _, shape := range [][2]int{{2, 2}, {3, 3}, {3, 5}, {4, 4}, {5, 5}, {5, 7}} {
		for seed := range 12 {
			s := made.Source{Words: seed % 3, Seed: uint64(seed)}
			a := s.Whole(shape[0], shape[1])
			b, _ := holdReduce(t, a)
			_, least := holdShortest(t, a)
			met := false
			for small := range made.AllSmall(1, b.Rows, []int{-2, -1, 0, 1, 2}) {
				line := product(small.Matrix(b.Rows), b).At
				if isZero(line) {
					continue
				}
				c := zint.Cmp(squareOf(line), least)
				check.Same(t, of("is a row shorter", a), c < 0, false)
				met = met || c == 0
			}
			check.Same(t, of("is a row as short", a), met, true)
		}
	}
}

// independent are those of the matrices whose rows are independent.
func independent() []api.Mat {
	var all []api.Mat
	for _, a := range someMatrices() {
		if rankOf(a) == a.Rows {
			all = append(all, a)
		}
		b, _, _ := lll.Reduce(a)
		all = append(all, b)
	}
	return all
}

// P23.5: what is near to v lies in the lattice; what is left of v is at most half of each ci along it; a row of the lattice is near to itself.
func TestNearRows(t *testing.T) {
	for i, b := range independent() {
		s := made.Source{Words: i % 4, Seed: uint64(i)}
		for range 4 {
			v := s.Whole(1, b.Cols).At
			near := holdNear(t, b, v)
			check.Same(t, at("does Near lie in the lattice", b, v), lies(b, near), true)
			left := fractions(sumOf(v, num(-1), near))
			for _, c := range wordsOf(b).c {
				part := quotient(left, c)
				half := cmp(part, check.Over(-1, 2)) >= 0 && cmp(part, check.Over(1, 2)) <= 0
				check.Same(t, at("is no more left than half of each ci", b, v), half, true)
			}
			check.Ints(t, at("Near of what is near", b, v), holdNear(t, b, near), near)
			lying := product(s.Whole(1, b.Rows), b).At
			check.Ints(t, at("Near of a row of the lattice", b, lying), holdNear(t, b, lying), leastOf(lying))
			even, _ := mat.Scale(num(2), api.Mat{Rows: 1, Cols: b.Cols, At: lying})
			further := sumOf(near, num(1), even.At)
			check.Ints(t, at("Near, twice a row of the lattice further", b, v), holdNear(t, made.Disguised(b), disguised(sumOf(v, num(1), even.At))), leastOf(further))
		}
	}
}

// P23.5: halves of the rows, of which each goes to the even number.
func TestNearHalves(t *testing.T) {
	for i, b := range independent() {
		s := made.Source{Words: i % 3, Seed: uint64(i)}
		twice, _ := mat.Scale(num(2), b)
		for place := range b.Rows {
			odd := zint.MulAdd(num(2), s.Next(), num(1))
			v := sumOf(make([]api.Int, b.Cols), odd, lineOf(b, place))
			half := api.Frac{Num: odd, Den: num(2)}
			times, _ := frac.Nearest(half)
			want := leastOf(sumOf(make([]api.Int, b.Cols), times, lineOf(twice, place)))
			near := holdNear(t, twice, v)
			if place == 0 {
				// Below the first row what is left, half a row, may come with rows above it.
				check.Ints(t, at("Near of odd halves", twice, v), near, want)
			}
			check.Same(t, at("does Near lie in the lattice", twice, v), lies(twice, near), true)
		}
	}
}

// P23.2 and P23.6: of a square matrix the last number is the determinant times itself; and of multiples of one row the shortest is that by their greatest common divisor.
func TestSquares(t *testing.T) {
	for _, a := range someMatrices() {
		if a.Rows != a.Cols {
			continue
		}
		det, _ := bareiss.Det(a)
		check.Int(t, of("the last of Dets", a), holdDets(t, a)[a.Rows], zint.Mul(det, det))
	}
	for seed := range 20 {
		s := made.Source{Words: 1 + seed%4, Seed: uint64(seed)}
		column, line := s.Whole(5, 1), s.Whole(1, 4)
		a := product(column, line)
		common, _ := minors.Gcd(column, 1)
		if isZero(a.At) {
			continue
		}
		holdLeast(t, a, zint.Mul(zint.Mul(common, common), squareOf(line.At)))
	}
}
