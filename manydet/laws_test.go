package manydet_test

import (
	"slices"
	"testing"

	"trellis/api"
	"trellis/bareiss"
	"trellis/check"
	"trellis/made"
	"trellis/manydet"
	"trellis/mat"
	"trellis/minors"
	"trellis/modp"
	"trellis/zint"
)

// primes are little ones and great ones, in no order, one of them more than once.
func primes() []uint64 {
	return []uint64{65537, 2, greatest, 3, 2, next, 1073741789, 5}
}

// residuesOf are the least residues of n.
func residuesOf(n api.Int, ps []uint64) []uint64 {
	var all []uint64
	for _, p := range ps {
		rest, _ := zint.Mod(n, plus(p))
		small, _ := zint.Small(rest)
		all = append(all, uint64(small))
	}
	return all
}

// withRow is a with b in the place of row i.
func withRow(a api.Mat, i int, b []api.Int) api.Mat {
	other := api.Mat{Rows: a.Rows, Cols: a.Cols, At: slices.Clone(a.At)}
	copy(other.At[i*a.Cols:], b)
	return other
}

// P15.1, P15.3 to P15.5: integers of many sizes and both signs, in least form or not, by all ways to pick entries.
func TestIntegers(t *testing.T) {
	integers := check.Integers()
	for from := range len(integers) / 3 {
		list := slices.Concat(integers[3*from:], integers[:3*from])
		for n := range 5 {
			a, b := check.Filled(n, n, list), check.Filled(1, n, list[n:]).At
			d := made.Det(a)
			holdDet(t, a, d, 2)
			holdResidues(t, a, primes(), residuesOf(d, primes()), 3)
			rank, _ := bareiss.Rank(a)
			holdRank(t, a, rank, 2)
			if zint.Sign(d) == 0 {
				holdNoCramer(t, a, b, 2, api.ErrNone)
				continue
			}
			var x []api.Int
			for i := range n {
				x = append(x, made.Det(withRow(a, i, b)))
			}
			holdCramer(t, a, b, x, d, 2)
		}
	}
}

// P15.1: the product of the rows' sums, whatever the integers, and no minor above it.
func TestBoundOfIntegers(t *testing.T) {
	for words := range 4 {
		for _, shape := range [][2]int{{1, 1}, {2, 5}, {5, 2}, {4, 4}, {6, 5}, {20, 30}, {64, 64}} {
			s := &made.Source{Words: words, Seed: uint64(words)}
			a := s.Whole(shape[0], shape[1])
			want := num(1)
			for i := range a.Rows {
				sum := num(0)
				for _, n := range a.At[i*a.Cols : (i+1)*a.Cols] {
					sum = zint.Add(sum, api.Int{Mag: n.Mag})
				}
				if zint.Sign(sum) > 0 {
					want = zint.Mul(want, sum)
				}
			}
			holdBound(t, a, want)
			holdBound(t, made.Disguised(a), want)
			for k := range 1 + min(a.Rows, a.Cols, 12) {
				rows, cols := s.Places(k, a.Rows), s.Places(k, a.Cols)
				d, _ := minors.Minor(a, rows, cols)
				check.Same(t, of("is a minor above the bound", a), zint.CmpAbs(d, want) > 0, false)
			}
		}
	}
}

// P5: the determinant and the rank that the other roads answer; modulo each prime modp's.
func TestOtherRoads(t *testing.T) {
	for n, most := range map[int]int{2: 3, 5: 3, 17: 3, 40: 2, 64: 1} {
		for words := range most + 1 {
			a := (&made.Source{Words: words, Seed: uint64(n)}).Whole(n, n)
			d, _ := bareiss.Det(a)
			holdDet(t, a, d, few()...)
			minor, _ := minors.Minor(a, first(n), first(n))
			check.Int(t, of("the minor of all rows and columns", a), minor, d)
			rank, _ := bareiss.Rank(a)
			holdRank(t, a, rank, few()...)
			var residues []uint64
			for _, p := range primes() {
				residue, _ := modp.Det(a, p)
				residues = append(residues, residue)
			}
			holdResidues(t, a, primes(), residues, few()...)
			check.Words(t, of("the residues of the determinant", a), residues, residuesOf(d, primes()))
		}
	}
}

// P15.4: ranks from 0 to all, of matrices that are made so that they are known.
func TestMadeRanks(t *testing.T) {
	for _, shape := range [][2]int{{1, 1}, {2, 2}, {3, 5}, {5, 3}, {7, 7}, {1, 30}, {30, 1}, {12, 20}} {
		for rank := range min(shape[0], shape[1]) + 1 {
			for words := range 3 {
				s := &made.Source{Words: words, Seed: uint64(100*rank + words)}
				holdRank(t, made.Disguised(s.Smith(shape[0], shape[1], s.Chain(rank))), rank, 1, 4)
			}
		}
	}
	for _, c := range [][3]int{{64, 64, 64}, {64, 64, 63}, {64, 64, 32}, {64, 64, 1}, {64, 64, 0}, {64, 20, 20}, {20, 64, 13}, {63, 64, 63}} {
		s := &made.Source{Seed: uint64(c[2])}
		holdRank(t, s.Smith(c[0], c[1], s.Chain(c[2])), c[2], 1, 16)
	}
}

// P15.4: determinants of matrices that are made so that they are known.
func TestMadeDets(t *testing.T) {
	for _, n := range []int{1, 2, 3, 5, 9, 20, 64} {
		for words := range 3 {
			// Of 64 rows those with small numbers will do.
			if n == 64 && words > 0 {
				continue
			}
			for seed := range 4 {
				s := &made.Source{Words: words, Seed: uint64(1000*n + 10*words + seed)}
				left, _, d := s.Unimodular(n)
				right, _, other := s.Unimodular(n)
				list := s.Chain(n)
				d = zint.Mul(d, other)
				for _, factor := range list {
					d = zint.Mul(d, factor)
				}
				middle, _ := mat.Diag(n, n, list)
				holdDet(t, made.Disguised(product(left, middle, right)), d, 1, 5)
			}
		}
	}
}

// holdLawsOfCramer: x times a is d times b, and x is b times the adjugate.
func holdLawsOfCramer(t *testing.T, a api.Mat, b []api.Int, workers ...int) {
	t.Helper()
	d, _ := bareiss.Det(a)
	if zint.Sign(d) == 0 {
		holdNoCramer(t, a, b, workers[0], api.ErrNone)
		return
	}
	adjugate, _ := minors.Adjugate(a)
	x, _ := mat.VecMul(b, adjugate)
	holdCramer(t, a, b, x, d, workers...)
	got, _, _ := manydet.Cramer(a, b, workers[0])
	made, _ := mat.VecMul(got, a)
	scaled, _ := mat.Scale(d, api.Mat{Rows: 1, Cols: len(b), At: b})
	check.Ints(t, of("x times a", a, b), made, scaled.At)
}

// P15.5 at matrices of each rank and of many sizes of numbers, with b's of other sizes.
func TestCramer(t *testing.T) {
	for _, n := range []int{1, 2, 3, 5, 8, 13} {
		for rank := max(0, n-2); rank <= n; rank++ {
			for words := range 3 {
				s := &made.Source{Words: words, Seed: uint64(100*n + 10*rank + words)}
				a := s.OfRank(n, n, rank)
				long := &made.Source{Words: 9, Seed: 5}
				for _, b := range [][]api.Int{s.Whole(1, n).At, long.Whole(1, n).At, make([]api.Int, n), check.Filled(1, n, check.Zeros()).At, a.At[(n-1)*n:], made.Disguised(long.Whole(1, n)).At} {
					holdLawsOfCramer(t, made.Disguised(a), b, 1, 4)
				}
			}
		}
	}
	s := &made.Source{Seed: 3}
	holdLawsOfCramer(t, s.Whole(64, 64), s.Whole(1, 64).At, 16)
}

// P15.5: of a matrix of one place x is b itself, however long it is, and however short the matrix's number.
func TestCramerOfOne(t *testing.T) {
	for _, b := range append(check.Integers(), check.Zeros()...) {
		for _, n := range []int{1, -1, 5, -greatest, 1 << 40} {
			holdCramer(t, api.Mat{Rows: 1, Cols: 1, At: nums(n)}, []api.Int{b}, []api.Int{zint.Least(b)}, num(n), 1)
		}
	}
}
