package snf_test

import (
	"testing"

	"trellis/api"
	"trellis/bareiss"
	"trellis/check"
	"trellis/made"
	"trellis/mat"
	"trellis/snf"
	"trellis/zint"
)

// shapesAndRanks are shapes of up to 64 rows and columns, with ranks.
func shapesAndRanks() [][3]int {
	var all [][3]int
	for _, rows := range []int{1, 2, 3, 5, 8, 14} {
		for _, cols := range []int{1, 2, 3, 5, 8, 14} {
			for part := range 4 {
				all = append(all, [3]int{rows, cols, min(rows, cols) * part / 3})
			}
		}
	}
	return append(all, [3]int{64, 64, 64}, [3]int{64, 64, 63}, [3]int{64, 64, 30}, [3]int{64, 64, 1}, [3]int{64, 64, 0}, [3]int{64, 20, 20}, [3]int{20, 64, 20}, [3]int{64, 20, 11}, [3]int{20, 64, 11}, [3]int{64, 1, 1}, [3]int{1, 64, 1})
}

// P20.1 to P20.4: of a form between unimodular matrices the form comes back.
func TestFormsComeBack(t *testing.T) {
	for _, shape := range shapesAndRanks() {
		rows, cols, rank := shape[0], shape[1], shape[2]
		s := made.SourceFor(shape)
		list := s.Chain(rank)
		a := made.Disguised(s.Smith(rows, cols, list))
		want := diagOf(rows, cols, list)
		holdForm(t, a, want)
		check.Mat(t, of("D of Full", a), holdFull(t, a).D, want)
		check.Mat(t, of("Form of the form", a), holdAll(t, want), want)
	}
}

// P20.1 and P20.2: powers of one prime, between unimodular matrices, in which much hangs on the order of the steps.
func TestPowersComeBack(t *testing.T) {
	for _, n := range []int{2, 3, 5, 9, 17, 40} {
		for seed := range 6 {
			s := made.Source{Seed: uint64(seed)}
			var list []api.Int
			for i := range n {
				power, _ := zint.Pow(num(2+seed%2), i*(1+seed/2)/2)
				list = append(list, power)
			}
			a := s.Smith(n, n, list)
			want := diagOf(n, n, list)
			holdForm(t, a, want)
			check.Mat(t, of("D of Full", a), holdFull(t, a).D, want)
		}
	}
}

// P20.1, P20.2 and P20.6: numbers on the diagonal alone, that divide one another or not, in any order, with any signs.
func TestDiagonals(t *testing.T) {
	for _, n := range []int{1, 2, 3, 4, 5, 8, 13, 64} {
		for seed := range 5 {
			s := made.Source{Words: seed % 3, Seed: uint64(seed)}
			list := s.Whole(1, n).At
			if seed == 4 {
				for i := range list {
					list[i] = num(n - i)
				}
			}
			a := diagOf(n, n, list)
			want := diagOf(n, n, snf.Chain(list))
			check.Same(t, of("is Chain in the form", a), isSmith(want), true)
			holdForm(t, a, want)
			check.Mat(t, of("D of Full", a), holdFull(t, a).D, want)
			mixed, _ := mat.Pick(a, s.Order(n), s.Order(n))
			holdForm(t, made.Disguised(mixed), want)
			check.Mat(t, of("D of Full", mixed), holdFull(t, mixed).D, want)
		}
	}
}

// P20.1 and P20.2: the form of a unimodular matrix is the unit matrix.
func TestUnimodular(t *testing.T) {
	for _, n := range []int{0, 1, 2, 3, 4, 7, 15, 40, 64} {
		s := made.Source{Words: min(3, 16/max(n, 1)), Seed: uint64(n)}
		u, _, _ := s.Unimodular(n)
		check.Mat(t, of("form of a unimodular matrix", u), holdAll(t, made.Disguised(u)), unitOf(n))
	}
}

// powers is the matrix whose row i has the powers of i, the power 0 first: the numbers of its form are the factorials.
func powers(n int) api.Mat {
	a := api.Mat{Rows: n, Cols: n}
	for i := range n {
		power := num(1)
		for range n {
			a.At = append(a.At, power)
			power = zint.Mul(power, num(i))
		}
	}
	return a
}

// knots is the matrix with b on its diagonal, a beside it and 0 elsewhere, of n rows.
func knots(n, a, b int) api.Mat {
	m, _ := mat.Zero(n, n)
	for i := range n {
		m.At[i*n+i] = num(b)
		if i+1 < n {
			m.At[i*n+i+1] = num(a)
		}
	}
	return m
}

// P20.1 to P20.4 at matrices of up to 64 rows that are known by a rule.
func TestByRule(t *testing.T) {
	for _, n := range []int{2, 9, 30, 64} {
		var factorials []api.Int
		factorial := num(1)
		for i := range n {
			factorial = zint.Mul(factorial, num(max(i, 1)))
			factorials = append(factorials, factorial)
		}
		check.Mat(t, of("powers", powers(n)), holdAll(t, powers(n)), diagOf(n, n, factorials))
		// n times the unit matrix less ones everywhere: 1, then n, but 0 in the end.
		laplace := check.Filled(n, n, nums(-1))
		for i := range n {
			laplace.At[i*n+i] = num(n - 1)
		}
		list := append(nums(1), check.Filled(1, n-2, nums(n)).At...)
		check.Mat(t, of("each with each", laplace), holdAll(t, laplace), diagOf(n, n, list))
		// 3 beside 2: all minors of n - 1 rows have no common divisor.
		power := num(1)
		for range n {
			power = zint.Mul(power, num(2))
		}
		ones := check.Filled(1, n, nums(1)).At
		ones[n-1] = power
		check.Mat(t, of("2 beside 3", knots(n, 3, 2)), holdAll(t, knots(n, 3, 2)), diagOf(n, n, ones))
	}
	same := check.Filled(64, 64, nums(3))
	check.Mat(t, "threes everywhere", holdAll(t, same), diagOf(64, 64, nums(3)))
}

// P20.1 to P20.4 at the greatest matrices, with numbers of a word everywhere: the last of Divisors is the size of the determinant.
func TestLarge(t *testing.T) {
	s := made.Source{Words: 1, Seed: 1}
	for _, a := range []api.Mat{s.Whole(64, 64), s.OfRank(64, 64, 20), s.Whole(64, 10), s.Whole(10, 64)} {
		d := holdFull(t, a).D
		holdForm(t, a, d)
		rank, _ := bareiss.Rank(a)
		divisors, _ := snf.Divisors(a)
		check.Same(t, of("is the last number within the rank above 0", a), zint.Sign(divisors[rank]), 1)
		if a.Rows == a.Cols {
			det, _ := bareiss.Det(a)
			check.Int(t, of("the last of Divisors", a), divisors[64], zint.Abs(det))
		}
	}
}
