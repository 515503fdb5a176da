package manydet_test

import (
	"testing"

	"trellis/api"
	"trellis/check"
	"trellis/made"
	"trellis/manydet"
	"trellis/mat"
	"trellis/zint"
)

// single is the matrix of one row and column.
func single(n api.Int) api.Mat {
	return api.Mat{Rows: 1, Cols: 1, At: []api.Int{n}}
}

// products are those of the k greatest primes, for k from 0 to most.
func products(most int) []api.Int {
	ps, _ := manydet.Primes(most)
	all := nums(1)
	for k, p := range ps {
		all = append(all, zint.Mul(all[k], plus(p)))
	}
	return all
}

// around are numbers near n, on both sides of it and of 0.
func around(n api.Int) []api.Int {
	var all []api.Int
	for d := -2; d <= 2; d++ {
		near := zint.Add(n, num(d))
		all = append(all, near, zint.Neg(near))
	}
	return all
}

// holdNumber holds the calls at matrices of which n, which is not 0, is the determinant and the bound at once.
func holdNumber(t *testing.T, n api.Int, workers int) {
	t.Helper()
	holdDet(t, single(n), n, workers)
	holdRank(t, single(n), 1, workers)
	holdBound(t, single(n), zint.Abs(n))
	wide := api.Mat{Rows: 2, Cols: 2, At: []api.Int{num(0), n, num(1), num(0)}}
	holdDet(t, wide, zint.Neg(n), workers)
	holdRank(t, wide, 2, workers)
	// The solution is as large as the product of both numbers.
	holdCramer(t, wide, []api.Int{n, num(1)}, []api.Int{num(-1), zint.Neg(zint.Mul(n, n))}, zint.Neg(n), workers)
}

// P15.4 and P15.5: determinants whose double is near a product of the primes that are asked first, or that lie near powers of 2: as large as the bound, with both signs, so that one prime too few shows.
func TestBetweenPrimes(t *testing.T) {
	for k, whole := range products(25) {
		half, _, _ := zint.Floor(whole, num(2))
		power, _ := zint.Pow(num(2), k)
		for _, n := range append(around(half), around(power)...) {
			if zint.Sign(n) != 0 {
				holdNumber(t, n, 2)
			}
		}
	}
	for k := range 12 {
		power, _ := zint.Pow(num(1<<30), k)
		for _, n := range around(power) {
			if zint.Sign(n) != 0 {
				holdNumber(t, n, 3)
			}
		}
	}
}

// P15.4 and P15.5: numbers that all the primes divide that are asked first.
func TestMultiplesOfPrimes(t *testing.T) {
	all := products(40)
	for _, k := range []int{1, 2, 3, 15, 16, 17, 40} {
		holdNumber(t, all[k], 1)
		holdNumber(t, zint.Mul(all[k], num(-6)), 16)
		for _, n := range []int{2, 5} {
			// All that is not 0 is a multiple of the product, or every other one is.
			holdSpread(t, n, []api.Int{all[k]})
			holdSpread(t, n, []api.Int{all[k], num(1)})
		}
	}
}

// holdSpread holds matrices of n rows and each rank that are made of the factors, in turn.
func holdSpread(t *testing.T, n int, factors []api.Int) {
	t.Helper()
	s := &made.Source{Seed: uint64(n)}
	left, _, d := s.Unimodular(n)
	right, _, other := s.Unimodular(n)
	d = zint.Mul(d, other)
	list := check.Filled(1, n, factors).At
	for rank := range n + 1 {
		middle, _ := mat.Diag(n, n, list[:rank])
		a := product(left, middle, right)
		holdRank(t, a, rank, 4)
		holdLawsOfCramer(t, a, s.Whole(1, n).At, 4)
		if rank < n {
			holdDet(t, a, num(0), 4)
			d = zint.Mul(d, list[rank])
		} else {
			holdDet(t, a, d, 4)
		}
	}
}

// P15.4: the rank of matrices that are 0 modulo some of the primes and have another rank modulo each of the others.
func TestRankByOnePrime(t *testing.T) {
	// Modulo the prime at place i all but the number at place i of the diagonal vanish.
	whole := products(40)[40]
	ps, _ := manydet.Primes(40)
	var diagonal []api.Int
	for _, p := range ps {
		part, e := zint.Exact(whole, plus(p))
		check.Same(t, "does it divide the product", e, api.OK)
		diagonal = append(diagonal, part)
	}
	a, _ := mat.Diag(40, 45, diagonal)
	holdRank(t, a, 40, 1, 16)
	a.At[39*45+39] = num(0)
	holdRank(t, a, 39, 1, 16)
}

// P15.4: the rank is told by the primes that are asked first, by such as are asked later, or by one between: those from a place on divide all that is not 0, or those up to it.
func TestRankBySomePrimes(t *testing.T) {
	all := products(60)
	for place := range 50 {
		above, _ := zint.Exact(all[60], all[place])
		for _, n := range []api.Int{all[place], above, zint.Mul(all[place], above)} {
			holdRank(t, mat2(n, num(0), num(0), num(0)), 1, 5)
			holdRank(t, mat2(n, num(0), n, num(1)), 2, 5)
		}
	}
}

// P15.4: no limit on the size: determinants that need more primes than Primes lists.
func TestManyPrimes(t *testing.T) {
	for _, words := range []int{496, 497, 700} {
		n := api.Int{Neg: words%2 == 0, Mag: append(check.Mixed(words-1, 3), check.High)}
		holdDet(t, single(n), n, 4)
		holdRank(t, mat2(n, n, n, n), 1, 4)
		holdCramer(t, mat2(n, num(1), num(1), num(0)), nums(2, 3), []api.Int{num(-3), zint.MulAdd(num(3), n, num(-2))}, num(-1), 4)
	}
	s := &made.Source{Words: 14, Seed: 2}
	a, _, d := s.Unimodular(12)
	n := plus(append(check.Mixed(699, 5), 1)...)
	for i := range a.At[:a.Cols] {
		a.At[i] = zint.Mul(a.At[i], n)
	}
	holdDet(t, a, zint.Mul(d, n), 8)
}

// mat2 is the matrix a b; c d.
func mat2(a, b, c, d api.Int) api.Mat {
	return api.Mat{Rows: 2, Cols: 2, At: []api.Int{a, b, c, d}}
}

// P15.4 and P15.5: numbers for which the primes above 2^30 do not suffice. They are too long to be written in a report.
func TestBeyondPrimes(t *testing.T) {
	huge := minus(check.Repeat(check.Top, 30<<18)...)
	d, e := manydet.Det(single(huge), 2)
	check.Same(t, "Det", e, api.OK)
	check.Same(t, "is Det right", zint.Cmp(d, huge), 0)
	a := mat2(huge, num(0), num(0), num(0))
	rank, e := manydet.Rank(a, 16)
	check.Same(t, "Rank", e, api.OK)
	check.Same(t, "Rank", rank, 1)
	a.At[3] = num(2)
	x, d, e := manydet.Cramer(a, nums(3, 5), 1)
	check.Same(t, "Cramer", e, api.OK)
	check.Same(t, "is Cramer's determinant right", zint.Cmp(d, zint.Mul(huge, num(2))), 0)
	check.Int(t, "the first number of x", x[0], num(6))
	check.Same(t, "is the second number of x right", zint.Cmp(x[1], zint.Mul(huge, num(5))), 0)
}

// P15.5: the same where the row alone is so long.
func TestRowBeyondPrimes(t *testing.T) {
	huge := plus(check.Repeat(check.Top, 30<<18)...)
	x, d, e := manydet.Cramer(mx("0 1; 2 0"), []api.Int{num(1), huge}, 3)
	check.Same(t, "Cramer", e, api.OK)
	check.Int(t, "Cramer's determinant", d, num(-2))
	// x times 0 1; 2 0 is -2 times 1 and -2 times the huge one.
	check.Same(t, "is the first number of x right", zint.Cmp(x[0], zint.Mul(huge, num(-2))), 0)
	check.Int(t, "the second number of x", x[1], num(-1))
}
