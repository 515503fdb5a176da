package lattice_test

import (
	"slices"
	"testing"

	"trellis/api"
	"trellis/check"
	"trellis/hnf"
	"trellis/lattice"
	"trellis/made"
	"trellis/mat"
	"trellis/snf"
	"trellis/zint"
)

// someMatrices are of many shapes and all ranks, with numbers of many lengths.
func someMatrices() []api.Mat {
	var all []api.Mat
	for _, shape := range [][2]int{{1, 1}, {1, 4}, {4, 1}, {2, 2}, {3, 3}, {3, 5}, {5, 3}, {6, 6}, {8, 4}, {4, 8}, {9, 9}} {
		for rank := range min(shape[0], shape[1]) + 1 {
			s := made.Source{Words: rank % 3, Seed: uint64(100*shape[0] + 10*shape[1] + rank)}
			all = append(all, s.OfRank(shape[0], shape[1], rank), s.Smith(shape[0], shape[1], s.Chain(rank)))
		}
	}
	return all
}

// somePairs are matrices with as many columns, of many ranks, whose lattices meet in no row, in some, or lie in one another.
func somePairs() [][2]api.Mat {
	var all [][2]api.Mat
	for i, a := range someMatrices() {
		s := made.Source{Words: i % 3, Seed: uint64(i)}
		small := made.Source{Seed: uint64(i)}
		other := s.OfRank(1+i%5, a.Cols, 1+i%3)
		above, _ := mat.Stack(small.Whole(1+i%2, a.Cols), a)
		part := product(small.Whole(a.Rows, a.Rows), a)
		mixed, _ := mat.Stack(part, small.Whole(1, a.Cols))
		all = append(all, [2]api.Mat{a, other}, [2]api.Mat{a, above}, [2]api.Mat{part, a}, [2]api.Mat{a, mixed}, [2]api.Mat{part, product(small.Whole(2, a.Rows), a)})
	}
	return all
}

// imageOf is what Image answers, a Hermite basis.
func imageOf(t *testing.T, a api.Mat) api.Mat {
	t.Helper()
	got, e := lattice.Image(a)
	holdBasis(t, of("Image", a), got, e, a.Cols)
	return got
}

// quotient tells the group of the rows of a basis modulo some of its lattice: the factors above 1 and, for the rows that are missing, zeros.
func quotient(part, basis api.Mat) []api.Int {
	by := api.Mat{Rows: part.Rows, Cols: basis.Rows}
	for _, line := range mat.Lines(part) {
		_, times, _ := hnf.Reduce(basis, line)
		by.At = append(by.At, times...)
	}
	factors, _ := snf.Factors(by)
	factors = slices.DeleteFunc(factors, func(n api.Int) bool { return zint.Cmp(n, num(1)) == 0 })
	return append(factors, make([]api.Int, basis.Rows-part.Rows)...)
}

// holdTwo asks for all that the document says of two lattices.
func holdTwo(t *testing.T, a, b api.Mat) {
	t.Helper()
	ofA, ofB := imageOf(t, a), imageOf(t, b)
	sum := holdSumByLaws(t, a, b, ofA, ofB)
	meet, e := lattice.Meet(a, b)
	call := of("Meet", a, b)
	holdBasis(t, call, meet, e, a.Cols)
	check.Same(t, call+": does it lie in the first", lieAll(ofA, meet), true)
	check.Same(t, call+": does it lie in the second", lieAll(ofB, meet), true)
	check.Same(t, call+": rows", meet.Rows, ofA.Rows+ofB.Rows-sum.Rows)
	// Modulo the greatest lattice that lies in both, the second one is the sum modulo the first; modulo a lesser one of the same rank it has more rows.
	check.Ints(t, call+": the second one modulo it", quotient(meet, ofB), quotient(ofA, sum))
	holdMeet(t, a, b, meet)
	holdCompared(t, a, b, ofA, ofB)
	holdCompared(t, b, a, ofB, ofA)
}

// holdSumByLaws asks for the least lattice that holds both: the divisors of its minors are those of all rows together.
func holdSumByLaws(t *testing.T, a, b, ofA, ofB api.Mat) api.Mat {
	t.Helper()
	sum, e := lattice.Sum(a, b)
	call := of("Sum", a, b)
	holdBasis(t, call, sum, e, a.Cols)
	check.Same(t, call+": does it hold the first", lieAll(sum, a), true)
	check.Same(t, call+": does it hold the second", lieAll(sum, b), true)
	all, _ := mat.Stack(ofA, ofB)
	check.Same(t, call+": rows", sum.Rows, rankOf(all))
	want, _ := snf.Divisors(all)
	divisors, _ := snf.Divisors(sum)
	check.Ints(t, call+": divisors of its minors", divisors, want[:sum.Rows+1])
	holdSum(t, a, b, sum)
	return sum
}

// holdCompared asks Inside and Index for what the bases tell, and Same in holdIndex and holdOutside.
func holdCompared(t *testing.T, a, b, ofA, ofB api.Mat) {
	t.Helper()
	if !lieAll(ofB, a) {
		holdOutside(t, a, b)
		return
	}
	index := num(0)
	if ofA.Rows == ofB.Rows {
		// Their minors of as many rows as the rank says differ by the determinant that makes the one of the other.
		part, _ := snf.Divisors(ofA)
		whole, _ := snf.Divisors(ofB)
		index, _ = zint.Exact(part[ofA.Rows], whole[ofB.Rows])
	}
	holdIndex(t, a, b, index)
}

// P21.1 and P21.6, the whole's P6: of many matrices all that the document says.
func TestMatrices(t *testing.T) {
	for _, a := range someMatrices() {
		holdOne(t, a)
		holdOne(t, made.Disguised(a))
	}
}

// P21.4 and P21.5: of many pairs all that the document says.
func TestPairs(t *testing.T) {
	for i, two := range somePairs() {
		if i%2 == 0 {
			two[0] = made.Disguised(two[0])
		}
		holdTwo(t, two[0], two[1])
	}
}

// P21.1 and P21.4 to P21.6: all answers hang on the lattices alone, not on the rows that span them.
func TestOtherRows(t *testing.T) {
	for i, two := range somePairs() {
		if i%4 > 0 {
			continue
		}
		a, b := two[0], two[1]
		s := made.Source{Seed: uint64(i)}
		mix, _, _ := s.Unimodular(a.Rows)
		other := product(mix, a)
		holdSame(t, a, other, true)
		check.Mat(t, of("Image of other rows", a), imageOf(t, other), imageOf(t, a))
		check.Mat(t, of("Saturate of other rows", a), holdSaturate(t, other), holdSaturate(t, a))
		sum, _ := lattice.Sum(a, b)
		holdSum(t, other, b, sum)
		meet, _ := lattice.Meet(a, b)
		holdMeet(t, b, other, meet)
		index, e := lattice.Index(a, b)
		again, f := lattice.Index(other, b)
		check.Same(t, of("error of Index of other rows", a, b), f, e)
		check.Int(t, of("Index of other rows", a, b), again, index)
	}
}

// P21.2, P21.3 and the whole's P7: rows that were made of the matrix's, rows moved by such, and rows just beside.
func TestRows(t *testing.T) {
	for i, a := range someMatrices() {
		basis := imageOf(t, a)
		s := made.Source{Words: i % 3, Seed: uint64(i)}
		some := []api.Mat{s.Whole(1, a.Cols), product(s.Whole(1, a.Rows), a), check.Filled(1, a.Cols, nums(0))}
		for place := range a.Cols {
			beside, _ := mat.Least(some[1])
			beside.At[place] = zint.Add(beside.At[place], num(1))
			some = append(some, beside)
		}
		holdSolved(t, a, some[1].At)
		for _, b := range some {
			holdRow(t, a, b.At, lies(basis, b.At))
			holdRow(t, made.Disguised(a), disguised(b.At), lies(basis, b.At))
		}
	}
}

// P21.2: solutions that differ by a row of the kernel are one: the reduced one is answered whichever makes the row.
func TestOneSolution(t *testing.T) {
	for i, a := range someMatrices() {
		s := made.Source{Words: i % 3, Seed: uint64(i)}
		x := s.Whole(1, a.Rows)
		want := holdSolved(t, a, product(x, a).At)
		kernel, _ := lattice.Kernel(a)
		rest, _, _ := hnf.Reduce(kernel, x.At)
		check.Ints(t, of("Solve, from a solution", a), want, rest)
	}
}

// P21.4: of three lattices, one in another, the indices multiply, and are 0 just if one of them is.
func TestIndexOfThree(t *testing.T) {
	for i, c := range someMatrices() {
		s := made.Source{Words: i % 2, Seed: uint64(i)}
		b := product(s.Whole(c.Rows, c.Rows), c)
		for _, a := range []api.Mat{product(s.Whole(b.Rows, b.Rows), b), product(s.OfRank(b.Rows, b.Rows, b.Rows/2), b)} {
			inB, e := lattice.Index(a, b)
			check.Same(t, of("Index", a, b), e, api.OK)
			bInC, e := lattice.Index(b, c)
			check.Same(t, of("Index", b, c), e, api.OK)
			holdIndex(t, a, c, zint.Mul(inB, bInC))
		}
	}
}

// P21.5: sum and meet of three go in any order, and each undoes the other where it may.
func TestSumAndMeet(t *testing.T) {
	for i, two := range somePairs() {
		if i%5 > 1 {
			continue
		}
		a, b := two[0], two[1]
		s := made.Source{Seed: uint64(i)}
		c := s.Whole(1+i%3, a.Cols)
		sum, _ := lattice.Sum(a, b)
		meet, _ := lattice.Meet(a, b)
		holdMeet(t, a, sum, imageOf(t, a))
		holdSum(t, a, meet, imageOf(t, a))
		later, _ := lattice.Sum(b, c)
		want, _ := lattice.Sum(a, later)
		holdSum(t, sum, c, want)
		later, _ = lattice.Meet(b, c)
		want, _ = lattice.Meet(a, later)
		holdMeet(t, meet, c, want)
		// What stands upright on the sum stands upright on both.
		upright, _ := lattice.Complement(sum)
		onA, _ := lattice.Complement(a)
		onB, _ := lattice.Complement(b)
		holdMeet(t, onA, onB, upright)
	}
}
