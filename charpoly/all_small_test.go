package charpoly_test

import (
	"fmt"
	"iter"
	"testing"

	"trellis/api"
	"trellis/bareiss"
	"trellis/charpoly"
	"trellis/check"
	"trellis/made"
	"trellis/mat"
)

// small is a polynomial of small numbers.
type small []int

// allSmall are all lists of at most so many coefficients out of a few, with zeros at the high end too.
func allSmall(most int, entries ...int) iter.Seq[small] {
	return func(yield func(small) bool) {
		for length := range most + 1 {
			for a := range made.AllSmall(1, length, entries) {
				if !yield(small(a[0])) {
					return
				}
			}
		}
	}
}

// trimmed is p as it must be answered.
func (p small) trimmed() []api.Int {
	for len(p) > 0 && p[len(p)-1] == 0 {
		p = p[:len(p)-1]
	}
	return nums(p...)
}

func (p small) plus(q small) small {
	sum := make(small, max(len(p), len(q)))
	for i, c := range p {
		sum[i] += c
	}
	for i, c := range q {
		sum[i] += c
	}
	return sum
}

func (p small) times(q small) small {
	product := make(small, len(p)+len(q))
	for i, c := range p {
		for j, d := range q {
			product[i+j] += c * d
		}
	}
	return product
}

// at is the sum of the coefficients times the powers of x.
func (p small) at(x int) int {
	sum, power := 0, 1
	for _, c := range p {
		sum += c * power
		power *= x
	}
	return sum
}

// P16.1: all pairs of short lists.
func TestAllSmallSums(t *testing.T) {
	for p := range allSmall(3, -2, 0, 1, 3) {
		check.Ints(t, fmt.Sprint("Trim of ", p), charpoly.Trim(nums(p...)), p.trimmed())
		for q := range allSmall(3, -2, 0, 1, 3) {
			check.Ints(t, fmt.Sprint(p, " + ", q), charpoly.Add(nums(p...), nums(q...)), p.plus(q).trimmed())
			check.Ints(t, fmt.Sprint(p, " times ", q), charpoly.Mul(nums(p...), nums(q...)), p.times(q).trimmed())
		}
	}
}

// P16.2: each quotient and each rest of a degree below the divisor's must be found again, since there is just one pair.
func TestAllSmallDivisions(t *testing.T) {
	for below := range allSmall(2, -2, 0, 1, 3) {
		divisor := append(below, 1)
		for _, q := range []small{divisor, append(append(small{}, divisor...), 0, 0)} {
			for quot := range allSmall(3, -2, 0, 1) {
				for rest := range allSmall(len(below), -1, 0, 4) {
					p := q.times(quot).plus(rest)
					holdDivision(t, nums(p...), nums(q...), quot.trimmed(), rest.trimmed())
				}
			}
		}
	}
}

// P16.3: all short lists at small numbers.
func TestAllSmallValues(t *testing.T) {
	for p := range allSmall(6, -2, 0, 1) {
		for x := -4; x <= 4; x++ {
			check.Int(t, fmt.Sprint(p, " at ", x), charpoly.Value(nums(p...), num(x)), num(p.at(x)))
		}
	}
}

// charOf is the characteristic polynomial by the determinants at the same rows and columns: the sum of those of k rows, with the sign turned where k is odd, is the coefficient of x^(n - k).
func charOf(a made.Small) []api.Int {
	n := len(a)
	p := make(small, n+1)
	for k := range n + 1 {
		for _, set := range made.Choices(made.First(n), k) {
			p[n-k] += (1 - k%2*2) * a.Det(set, set)
		}
	}
	return nums(p...)
}

// powersOf are the powers of a from 0 on, so many.
func powersOf(a api.Mat, count int) []api.Mat {
	var all []api.Mat
	for i := range count {
		one, _ := mat.Pow(a, i)
		all = append(all, one)
	}
	return all
}

// plainAt is p at a: the sum of the coefficients times the powers.
func plainAt(p []api.Int, a api.Mat) api.Mat {
	sum := zero(a.Rows)
	for i, one := range powersOf(a, len(p)) {
		part, _ := mat.Scale(p[i], one)
		sum, _ = mat.Add(sum, part)
	}
	return sum
}

// holdLeastByRank holds the least polynomial against its words: monic, zero at a, and of a degree such that no fewer powers of a, each told as one row, are dependent. a has at most 8 rows.
func holdLeastByRank(t *testing.T, a api.Mat) {
	t.Helper()
	p, e := charpoly.LeastPoly(a)
	check.Same(t, of("LeastPoly", a), e, api.OK)
	if len(p) == 0 {
		t.Fatalf("LeastPoly(%v) is 0", a)
	}
	check.Int(t, of("highest coefficient of LeastPoly", a), p[len(p)-1], num(1))
	check.Mat(t, of("LeastPoly at its matrix", a, p), plainAt(p, a), zero(a.Rows))
	degree := len(p) - 1
	powers := api.Mat{Rows: degree, Cols: a.Rows * a.Rows}
	for _, one := range powersOf(a, degree) {
		powers.At = append(powers.At, one.At...)
	}
	rank, e := bareiss.Rank(powers)
	check.Same(t, of("Rank of the powers", a), e, api.OK)
	check.Same(t, of("how many powers are independent", a), rank, degree)
}

// P16.4, P16.5, P16.7, P16.8 and P9 at all small matrices, or at some of them.
func TestAllSmallMatrices(t *testing.T) {
	for _, c := range []struct {
		n, step int
		entries []int
	}{
		{1, 1, []int{-3, -1, 0, 1, 2, 4}}, {2, 1, []int{-2, -1, 0, 1, 3}}, {3, 7, []int{-1, 0, 2}}, {3, 1, []int{0, 1}}, {4, 67, []int{0, 1}}, {4, 50021, []int{-2, 0, 1}}, {5, 50021, []int{0, 1}}, {6, 199999991, []int{0, 1}},
	} {
		for entries := range made.SomeSmall(c.n, c.n, c.step, c.entries) {
			a := entries.Matrix(c.n)
			p := charOf(entries)
			holdChar(t, a, p)
			holdAt(t, p, a, zero(c.n))
			holdLeastByRank(t, a)
			var traces []api.Int
			for _, one := range powersOf(a, 8)[1:] {
				trace, _ := mat.Trace(one)
				traces = append(traces, trace)
			}
			holdTraces(t, a, 7, traces)
			holdTraces(t, a, 2, traces[:2])
			for _, q := range []string{"3 -1", "5 -4 3 -2 1", "0 0 2 0 0 0 1 0"} {
				holdAt(t, poly(q), a, plainAt(poly(q), a))
			}
		}
	}
}
