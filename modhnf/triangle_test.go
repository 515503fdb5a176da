package modhnf

import (
	"testing"

	"trellis/api"
	"trellis/check"
	"trellis/made"
	"trellis/mat"
	"trellis/zint"
)

// P19.1, its road: after each row the lines are a triangle whose pivots divide the modulus, no number is longer than the modulus, and the row that was put in is used up.
func TestTriangle(t *testing.T) {
	for seed := range 30 {
		s := made.Source{Words: seed % 4, Seed: uint64(seed)}
		modulus := s.NotZero()
		basis := multiplesOf(modulus, 6)
		for _, line := range mat.Lines(s.OfRank(9, 6, 1+seed%6)) {
			basis.put(line)
			holdTriangle(t, basis, zint.Abs(modulus))
			for _, n := range line {
				check.Int(t, "what is left of the row", n, api.Int{})
			}
		}
		basis.lower()
		holdTriangle(t, basis, zint.Abs(modulus))
	}
}

// holdTriangle asks for zeros before the pivots, pivots above 0 that divide the modulus, and behind them numbers from 0 on below the modulus.
func holdTriangle(t *testing.T, basis *triangle, modulus api.Int) {
	t.Helper()
	check.Int(t, "modulus", basis.modulus, modulus)
	for i, line := range basis.lines {
		for _, n := range line[:i] {
			check.Int(t, "before the pivot", n, api.Int{})
		}
		_, e := zint.Exact(modulus, line[i])
		check.Same(t, "does the pivot divide the modulus", e, api.OK)
		check.Same(t, "sign of the pivot", zint.Sign(line[i]), 1)
		for _, n := range line[i+1:] {
			check.Same(t, "is it a rest", zint.Sign(n) >= 0 && zint.Cmp(n, modulus) < 0, true)
		}
	}
}

// P19.2, its road: what goes with the entries in the pivot columns, also of rows that are no rows of the form.
func TestAlong(t *testing.T) {
	for _, c := range []struct{ a, known, others string }{
		{"1 2 3; 4 5 6", "4 5", "6"}, {"1 2 3; 4 5 6", "-3 -3", "-3"}, {"1 2 3; 4 5 6", "0 0; 1 2", "0; 3"}, {"0 2 4; 0 3 6", "5", "0 10"}, {"3 6 0 1; 0 0 2 5", "-3 4", "-6 9"}, {"-2 7", "6", "-21"}, {"0 2", "6", "0"},
	} {
		all, e := coreOf(check.Matrix(c.a))
		check.Same(t, c.a, e, api.OK)
		check.Mat(t, c.a+" along "+c.known, all.along(check.Matrix(c.known), all.others()), check.Matrix(c.others))
	}
}
