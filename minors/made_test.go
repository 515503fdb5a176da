package minors_test

import (
	"testing"

	"trellis/api"
	"trellis/made"
	"trellis/mat"
	"trellis/zint"
)

// holdDivisors makes a matrix with the list on its diagonal between two unimodular ones, and asks at k for the product of the first k of the list: such matrices on both sides leave the greatest common divisor as it is.
func holdDivisors(t *testing.T, s *made.Source, rows, cols, rank, k int) {
	t.Helper()
	list := s.Chain(rank)
	a := s.Smith(rows, cols, list)
	want := num(0)
	if k <= rank {
		want = num(1)
		for _, n := range list[:k] {
			want = zint.Mul(want, n)
		}
	}
	holdGcd(t, made.Disguised(a), k, want)
}

// P14.3, P4: the divisors of matrices whose Smith form is known.
func TestMadeDivisors(t *testing.T) {
	for rows := 1; rows < 8; rows++ {
		for cols := 1; cols < 8; cols++ {
			for rank := range min(rows, cols) + 1 {
				for k := range min(rows, cols) + 1 {
					if choices(rows, k)*choices(cols, k) <= 500 {
						holdDivisors(t, &made.Source{Words: k % 2, Seed: uint64(1000*rows + 100*cols + 10*rank + k)}, rows, cols, rank, k)
					}
				}
			}
		}
	}
}

// P14.3: as many rows, columns and minors as may be.
func TestLargeDivisors(t *testing.T) {
	for _, c := range [][4]int{
		{64, 64, 20, 1}, {64, 64, 64, 63}, {64, 64, 63, 63}, {64, 64, 62, 63}, {64, 62, 62, 62}, {63, 64, 63, 63},
		{30, 27, 27, 27}, {27, 30, 27, 27}, {19, 15, 15, 15}, {15, 19, 15, 15}, {14, 7, 7, 7}, {7, 14, 7, 7}, {11, 11, 11, 2}, {11, 11, 11, 9}, {11, 11, 10, 9}, {11, 11, 9, 9}, {11, 11, 8, 9}, {64, 9, 9, 1}, {2, 64, 2, 2}, {64, 2, 2, 2},
	} {
		holdDivisors(t, &made.Source{Seed: uint64(c[2])}, c[0], c[1], c[2], c[3])
	}
}

// sandwich is the diagonal matrix of a list between two unimodular matrices; those which are their inverses, the other way round; and the product of their determinants.
func sandwich(s *made.Source, list []api.Int) (a, left, right api.Mat, det api.Int) {
	n := len(list)
	u, ofU, detU := s.Unimodular(n)
	v, ofV, detV := s.Unimodular(n)
	diag, _ := mat.Diag(n, n, list)
	return product(u, diag, v), ofV, ofU, zint.Mul(detU, detV)
}

// holdMadeInverse asks for the inverse of such a matrix, where the list is a chain: the last of it is the least number.
func holdMadeInverse(t *testing.T, s *made.Source, n int) {
	t.Helper()
	list := s.Chain(n)
	a, left, right, _ := sandwich(s, list)
	last := num(1)
	if n > 0 {
		last = list[n-1]
	}
	var parts []api.Int
	for _, d := range list {
		part, _ := zint.Exact(last, d)
		parts = append(parts, part)
	}
	diag, _ := mat.Diag(n, n, parts)
	holdInverse(t, made.Disguised(a), product(left, diag, right), last)
}

// holdMadeAdjugate asks for the adjugate of such a matrix with so many zeros in the list.
func holdMadeAdjugate(t *testing.T, s *made.Source, n, zeros int) {
	t.Helper()
	list := s.Chain(n)
	for _, i := range s.Places(zeros, n) {
		list[i] = num(0)
	}
	a, left, right, det := sandwich(s, list)
	var parts []api.Int
	for i := range list {
		part := det
		for j, d := range list {
			if j != i {
				part = zint.Mul(part, d)
			}
		}
		parts = append(parts, part)
	}
	diag, _ := mat.Diag(n, n, parts)
	holdAdjugate(t, made.Disguised(a), product(left, diag, right))
}

// P14.5 and P14.6 for matrices whose adjugate and inverse are known.
func TestMadeInverses(t *testing.T) {
	for _, n := range []int{0, 1, 2, 3, 4, 5, 8, 13, 30, 64} {
		// Of large ones those with small numbers will do.
		for words := range 1 + 14/(n+3) {
			s := &made.Source{Words: min(words, 3), Seed: uint64(100*n + words)}
			holdMadeInverse(t, s, n)
			for zeros := range min(n, 2) + 1 {
				holdMadeAdjugate(t, s, n, zeros)
			}
		}
	}
}

// P14.4: 64 rows and columns on both sides; the compound matrix at 63 is known by the adjugate.
func TestLargeCompound(t *testing.T) {
	s := &made.Source{Seed: 7}
	list := s.Chain(64)
	a, left, right, det := sandwich(s, list)
	var parts []api.Int
	whole := det
	for _, d := range list {
		whole = zint.Mul(whole, d)
	}
	for _, d := range list {
		part, _ := zint.Exact(whole, d)
		parts = append(parts, part)
	}
	diag, _ := mat.Diag(64, 64, parts)
	adj := product(left, diag, right)
	want := api.Mat{Rows: 64, Cols: 64}
	for row := 63; row >= 0; row-- {
		for col := 63; col >= 0; col-- {
			// The minor without this row and this column.
			d := adj.At[col*64+row]
			if (row+col)%2 == 1 {
				d = zint.Neg(d)
			}
			want.At = append(want.At, d)
		}
	}
	holdCompound(t, a, 63, want)
	holdCompound(t, a, 64, api.Mat{Rows: 1, Cols: 1, At: []api.Int{whole}})
	holdCompound(t, made.Disguised(a), 1, a)
	holdCompound(t, a, 0, mx("1"))
}
