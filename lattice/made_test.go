package lattice_test

import (
	"testing"

	"trellis/api"
	"trellis/bareiss"
	"trellis/bezout"
	"trellis/check"
	"trellis/hnf"
	"trellis/lattice"
	"trellis/made"
	"trellis/mat"
	"trellis/zint"
)

// between is a matrix with a list on its diagonal, between two unimodular ones whose inverses are known.
type between struct {
	rows, cols               int
	list                     []api.Int
	whole                    api.Mat
	leftInv, right, rightInv api.Mat
}

// makeBetween makes one of this shape; the list is as long as the rank is to be.
func makeBetween(s *made.Source, rows, cols int, list []api.Int) between {
	left, leftInv, _ := s.Unimodular(rows)
	right, rightInv, _ := s.Unimodular(cols)
	diag, _ := mat.Diag(rows, cols, list)
	return between{rows, cols, list, product(left, diag, right), leftInv, right, rightInv}
}

// basisOf is the Hermite basis of layer 18.
func basisOf(a api.Mat) api.Mat {
	basis, _ := hnf.Basis(a)
	return basis
}

// scaled is the matrix of the first rows, each as often as the list says.
func scaled(list []api.Int, rows api.Mat) api.Mat {
	diag, _ := mat.Diag(len(list), rows.Rows, list)
	return product(diag, rows)
}

// P21.1 and P21.6: kernel, image, complement and saturation come back.
func TestBasesComeBack(t *testing.T) {
	for _, shape := range made.Shapes() {
		s := made.SourceFor(shape)
		rank := shape[2]
		m := makeBetween(s, shape[0], shape[1], s.Chain(rank))
		a := made.Disguised(m.whole)
		for name, c := range map[string]struct {
			call answering
			want api.Mat
		}{
			"Kernel":     {lattice.Kernel, rowsFrom(m.leftInv, rank, m.rows)},
			"Image":      {lattice.Image, scaled(m.list, m.right)},
			"Complement": {lattice.Complement, rowsFrom(made.Turned(m.rightInv), rank, m.cols)},
			"Saturate":   {lattice.Saturate, rowsFrom(m.right, 0, rank)},
		} {
			got, e := c.call(a)
			check.Same(t, of(name, a), e, api.OK)
			check.Mat(t, of(name, a), got, basisOf(c.want))
		}
	}
}

// P21.2 and P21.3: solutions come back; a row that is no multiple at one place has none.
func TestSolutionsComeBack(t *testing.T) {
	for _, shape := range made.Shapes() {
		s := made.SourceFor(shape)
		rank := shape[2]
		m := makeBetween(s, shape[0], shape[1], s.Chain(rank))
		a := made.Disguised(m.whole)
		times, multiples := s.Whole(1, m.rows), make([]api.Int, m.cols)
		for i, n := range m.list {
			multiples[i] = zint.Mul(times.At[i], n)
		}
		x := product(times, m.leftInv).At
		rest, _, _ := hnf.Reduce(basisOf(rowsFrom(m.leftInv, rank, m.rows)), x)
		b, _ := mat.VecMul(multiples, m.right)
		check.Ints(t, of("Solve", a), holdSolved(t, a, disguised(b)), rest)
		for _, place := range []int{0, rank / 2, rank - 1, rank, m.cols - 1} {
			if place < 0 || place >= m.cols || place < rank && zint.Cmp(m.list[place], num(1)) == 0 {
				continue
			}
			other, _ := mat.Make(1, m.cols, multiples)
			other.At[place] = zint.Add(other.At[place], num(1))
			holdRefuted(t, a, disguised(product(other, m.right).At))
		}
	}
}

// manyOf are so many numbers at least 0, zeros among them, out of few primes.
func manyOf(s *made.Source, n int) []api.Int {
	var list []api.Int
	for range n {
		w := int(s.Word() % 64)
		list = append(list, num([]int{0, 1, 2, 3, 4, 6, 12, 35}[w%8]*[]int{1, 1, 1, 5, 7, 9, 10, 1}[w/8]))
	}
	return list
}

// P21.5: of multiples of the same rows sum and meet have the divisors and the common multiples; together they may have more than MaxDim rows.
func TestSumsAndMeetsComeBack(t *testing.T) {
	for _, shape := range [][3]int{{1, 1, 1}, {1, 2, 2}, {2, 2, 3}, {3, 3, 3}, {5, 4, 6}, {7, 9, 5}, {14, 14, 14}, {64, 64, 3}, {20, 30, 25}, {40, 40, 30}, {64, 64, 64}} {
		s := made.SourceFor([3]int{shape[0], max(shape[1], shape[2]), 0})
		one, two, cols := shape[0], shape[1], shape[2]
		right, _, _ := s.Unimodular(cols)
		p, q := manyOf(s, min(one, cols)), manyOf(s, min(two, cols))
		of := func(rows int, list []api.Int) api.Mat {
			diag, _ := mat.Diag(rows, cols, list)
			mix, _, _ := s.Unimodular(rows)
			return made.Disguised(product(mix, diag, right))
		}
		divisors, multiples := make([]api.Int, cols), make([]api.Int, cols)
		copy(divisors, p)
		for i, n := range q {
			if i < len(p) {
				multiples[i] = bezout.Lcm(p[i], n)
			}
			divisors[i] = bezout.Gcd(divisors[i], n)
		}
		a, b := of(one, p), of(two, q)
		holdSum(t, a, b, basisOf(scaled(divisors, right)))
		holdMeet(t, a, b, basisOf(scaled(multiples, right)))
		holdCompared(t, a, b, basisOf(a), basisOf(b))
	}
}

// P21.4: the index of multiples of the same rows is the product of the multiples.
func TestIndicesComeBack(t *testing.T) {
	for _, shape := range made.Shapes() {
		s := made.SourceFor(shape)
		rank := shape[2]
		m := makeBetween(s, shape[0], shape[1], s.Chain(rank))
		index, more := num(1), make([]api.Int, rank)
		for i, n := range m.list {
			times := num(1 + int(s.Word()%3))
			index = zint.Mul(index, times)
			more[i] = zint.Mul(times, n)
		}
		part := made.Disguised(scaled(more, m.right))
		holdIndex(t, part, m.whole, index)
		if zint.Cmp(index, num(1)) != 0 {
			holdOutside(t, m.whole, part)
		}
		if rank > 0 {
			holdIndex(t, rowsFrom(part, 1, rank), m.whole, num(0))
		}
	}
}

// P21.1 and P21.2: of rows that are combinations of the unit rows below them the kernel takes each of them and undoes its combination, and solutions have 0 there.
func TestKernelsByRule(t *testing.T) {
	for _, c := range [][2]int{{1, 1}, {3, 2}, {2, 5}, {10, 6}, {40, 24}, {24, 40}, {63, 1}, {1, 63}, {0, 4}, {64, 0}} {
		some, rank := c[0], c[1]
		s := made.Source{Words: 1, Seed: uint64(some)}
		combinations := s.Whole(some, rank)
		a, _ := mat.Stack(combinations, unitOf(rank))
		undone, _ := mat.Scale(num(-1), combinations)
		want, _ := mat.Beside(unitOf(some), undone)
		got, e := lattice.Kernel(made.Disguised(a))
		check.Same(t, of("Kernel", a), e, api.OK)
		check.Mat(t, of("Kernel", a), got, want)
		got, e = lattice.Complement(made.Turned(a))
		check.Same(t, of("Complement", a), e, api.OK)
		check.Mat(t, of("Complement", a), got, want)
		b := s.Whole(1, rank).At
		x := holdSolved(t, a, b)
		check.Ints(t, of("Solve", a), x[some:], b)
		check.Ints(t, of("Solve, at the combinations", a), x[:some], make([]api.Int, some))
	}
}

// P21.1 to P21.6 at matrices of 64 rows with numbers of a word everywhere.
func TestLarge(t *testing.T) {
	s := made.Source{Words: 1, Seed: 1}
	a := s.Whole(64, 64)
	det, _ := bareiss.Det(a)
	basis := imageOf(t, a)
	index, e := lattice.Index(a, unitOf(64))
	check.Same(t, "Index of 64 by 64", e, api.OK)
	check.Int(t, "Index of 64 by 64", index, zint.Abs(det))
	x := s.Whole(1, 64)
	got, e := lattice.Solve(a, product(x, a).At)
	check.Same(t, "Solve of 64 by 64", e, api.OK)
	check.Ints(t, "Solve of 64 by 64", got, x.At)
	holdRefuted(t, a, x.At)
	b := s.Whole(64, 64)
	sum, e := lattice.Sum(a, b)
	check.Same(t, "Sum of 64 by 64 each", e, api.OK)
	meet, e := lattice.Meet(a, b)
	check.Same(t, "Meet of 64 by 64 each", e, api.OK)
	check.Same(t, "does Sum hold both", lieAll(sum, a) && lieAll(sum, b), true)
	check.Same(t, "does Meet lie in both", lieAll(basis, meet) && lieAll(basisOf(b), meet), true)
	// The index of the meet in one of them is that of the other in the sum.
	index, _ = lattice.Index(b, sum)
	other, _ := lattice.Index(meet, a)
	check.Int(t, "Index of Meet", other, index)
	check.Same(t, "sign of Index", zint.Sign(index), 1)
}
