package rref_test

import (
	"fmt"
	"slices"
	"testing"

	"trellis/api"
	"trellis/bareiss"
	"trellis/bezout"
	"trellis/check"
	"trellis/modp"
	"trellis/rref"
	"trellis/zint"
)

// P17.2: each entry is the sum of the products, of fractions of all sizes and in any terms.
func TestProducts(t *testing.T) {
	for _, rows := range []int{0, 1, 2, 5} {
		for _, middle := range []int{0, 1, 3, 6} {
			for _, cols := range []int{0, 1, 2, 5} {
				for words := range 3 {
					s := newSource(words, uint64(100*rows+10*middle+cols))
					p := api.QMat{Rows: rows, Cols: middle, At: s.list(rows * middle)}
					q := api.QMat{Rows: middle, Cols: cols, At: s.list(middle * cols)}
					holdMul(t, s.disguise(p), s.disguise(q), product(p, q))
				}
			}
		}
	}
	s := newSource(0, 64)
	p := api.QMat{Rows: 64, Cols: 64, At: s.list(64 * 64)}
	q := api.QMat{Rows: 64, Cols: 64, At: s.list(64 * 64)}
	holdMul(t, s.disguise(p), s.disguise(q), product(p, q))
}

// P17.7: the numbers of a row are the number beside it times the fractions, and have no divisor in common with it: so no lesser one would do.
func TestLawsOfClear(t *testing.T) {
	for _, shape := range shapes() {
		for words := range 3 {
			s := newSource(words, uint64(shape[0]))
			holdCleared(t, s.disguise(api.QMat{Rows: shape[0], Cols: shape[1], At: s.list(shape[0] * shape[1])}))
		}
	}
}

// holdCleared holds Clear at one matrix.
func holdCleared(t *testing.T, q api.QMat) {
	t.Helper()
	a, by, e := rref.Clear(q)
	check.Same(t, of("Clear", q), e, api.OK)
	check.Same(t, of("Clear", q)+": shape", [4]int{a.Rows, a.Cols, len(a.At), len(by)}, [4]int{q.Rows, q.Cols, len(q.At), q.Rows})
	for i, n := range by {
		line := a.At[i*a.Cols : (i+1)*a.Cols]
		check.Same(t, of("Clear", q)+": sign", zint.Sign(n), 1)
		check.Int(t, of("Clear", q)+": least", bezout.GcdAll(append(slices.Clone(line), n)), num(1))
		for j, entry := range line {
			check.Frac(t, of("Clear", q), api.Frac{Num: entry, Den: num(1)}, timesOf(rowOf(q, i)[j], api.Frac{Num: n, Den: num(1)}))
		}
	}
}

// divided is a with each row over a number that is not 0, in any terms.
func (s *source) divided(a api.Mat) api.QMat {
	q := api.QMat{Rows: a.Rows, Cols: a.Cols}
	for i := range a.Rows {
		den := s.NotZero()
		for _, n := range a.At[i*a.Cols : (i+1)*a.Cols] {
			q.At = append(q.At, api.Frac{Num: n, Den: den})
		}
	}
	return q
}

// holdResidues asks for fractions that are, modulo a prime, these residues.
func holdResidues(t *testing.T, call string, got []api.Frac, residues []api.Int) {
	t.Helper()
	check.Same(t, call+": how many", len(got), len(residues))
	for i, f := range got {
		rest, _ := zint.Mod(zint.Sub(f.Num, zint.Mul(f.Den, residues[i])), plus(prime))
		check.Int(t, fmt.Sprintf("%s: number %d modulo a prime", call, i), rest, num(0))
		check.Frac(t, call+": lowest terms", f, lowest(f))
	}
}

// prime divides none of the numbers that are met on the way.
const prime = 2147483629

// P17.3 to P17.6: modulo a prime each answer is what layer 12 answers, and the columns are those of layer 13.
func TestModuloPrime(t *testing.T) {
	for _, c := range []struct{ rows, cols, rank, words int }{
		{2, 2, 2, 3}, {3, 5, 2, 3}, {5, 3, 2, 3}, {6, 6, 6, 2}, {12, 12, 7, 2}, {20, 12, 12, 1}, {12, 20, 12, 1}, {30, 30, 30, 1}, {30, 30, 11, 1}, {64, 64, 64, 0}, {64, 64, 63, 0}, {64, 64, 30, 0}, {64, 9, 9, 1}, {9, 64, 9, 1},
	} {
		s := newSource(c.words, uint64(c.rows+c.cols+c.rank))
		a := s.OfRank(c.rows, c.cols, c.rank)
		if c.rank == min(c.rows, c.cols) {
			a = s.Whole(c.rows, c.cols)
		}
		holdModulo(t, s, a, c.rank)
	}
}

// holdModulo holds the calls at a with its rows over some numbers: the form is that of a.
func holdModulo(t *testing.T, s *source, a api.Mat, rank int) {
	t.Helper()
	q := s.divided(a)
	form, columns, e := rref.Form(q)
	check.Same(t, of("Form", q), e, api.OK)
	want, _ := modp.Echelon(a, prime)
	holdResidues(t, of("Form", q), form.At, want.At)
	pivots, _ := bareiss.Pivots(a)
	holdPlaces(t, of("columns of Form", q), columns, pivots)
	check.Same(t, of("rank", q), len(columns), rank)
	p, _ := rref.From(a)
	kernel, e := rref.Kernel(p)
	check.Same(t, of("Kernel", p), e, api.OK)
	want, _ = modp.Kernel(a, prime)
	check.Same(t, of("Kernel", p)+": shape", [2]int{kernel.Rows, kernel.Cols}, [2]int{want.Rows, want.Cols})
	holdResidues(t, of("Kernel", p), kernel.At, want.At)
	// The sum of all rows is in reach.
	ones := check.Filled(1, a.Rows, nums(1)).At
	b := times(overOne(api.Mat{Rows: 1, Cols: a.Rows, At: ones}).At, p)
	x, e := rref.Solve(p, b)
	check.Same(t, of("Solve", p), e, api.OK)
	sums := make([]api.Int, a.Cols)
	for j, f := range b {
		sums[j] = f.Num
	}
	solution, _ := modp.Solve(a, sums, prime)
	holdResidues(t, of("Solve", p), x, solution)
	if a.Rows == a.Cols {
		holdInverseModulo(t, p, a, rank)
	}
}

// holdInverseModulo holds Inverse at a over 1.
func holdInverseModulo(t *testing.T, p api.QMat, a api.Mat, rank int) {
	t.Helper()
	got, e := rref.Inverse(p)
	if rank < a.Rows {
		holdRefusal(t, of("Inverse", p), told(got), e, api.ErrNone)
		return
	}
	want, _ := modp.Inverse(a, prime)
	check.Same(t, of("Inverse", p), e, api.OK)
	holdResidues(t, of("Inverse", p), got.At, want.At)
}

// P17.3 to P17.7: other terms of the same fractions change no answer.
func TestAnyTerms(t *testing.T) {
	for _, shape := range [][2]int{{1, 1}, {2, 2}, {2, 3}, {3, 2}, {4, 4}, {5, 5}, {3, 7}, {7, 3}} {
		s := newSource(1, uint64(10*shape[0]+shape[1]))
		q := api.QMat{Rows: shape[0], Cols: shape[1], At: s.list(shape[0] * shape[1])}
		for name, call := range takers() {
			want, wantErr := call(q)
			got, e := call(s.disguise(q))
			check.Same(t, of(name, q), e, wantErr)
			check.Fracs(t, of(name, q), got, want)
		}
	}
}
