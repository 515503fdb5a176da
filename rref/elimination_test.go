package rref

import (
	"slices"
	"testing"

	"trellis/api"
	"trellis/check"
	"trellis/frac"
	"trellis/made"
	"trellis/modp"
	"trellis/zint"
)

// residues is what an elimination knows of residues modulo a prime.
func residues(p int) arithmetic[int] {
	inverse := func(b int) int {
		return slices.IndexFunc(made.First(p), func(c int) bool { return b*c%p == 1 })
	}
	return arithmetic[int]{
		one:    1,
		isZero: func(a int) bool { return a == 0 },
		times:  func(a, b int) int { return a * b % p },
		less:   func(a, b int) int { return (a - b + p) % p },
		over:   func(a, b int) int { return a * inverse(b) % p },
	}
}

// fractions is what an elimination knows of fractions.
func fractions() arithmetic[api.Frac] {
	answer := func(call func(a, b api.Frac) (api.Frac, api.Errno)) func(a, b api.Frac) api.Frac {
		return func(a, b api.Frac) api.Frac {
			got, _ := call(a, b)
			return got
		}
	}
	return arithmetic[api.Frac]{
		one:    check.Over(1, 1),
		isZero: func(a api.Frac) bool { return zint.Sign(a.Num) == 0 },
		times:  answer(frac.Mul),
		less:   answer(frac.Sub),
		over:   answer(frac.Div),
	}
}

// P17.3, its way: one elimination reckons with residues, and reaches the form that layer 12 answers.
func TestEliminationOfResidues(t *testing.T) {
	for _, p := range []int{2, 3, 5} {
		for _, shape := range [][2]int{{1, 1}, {2, 2}, {2, 3}, {3, 2}} {
			for a := range made.AllSmall(shape[0], shape[1], made.First(min(p, 4))) {
				want, _ := modp.Echelon(a.Matrix(shape[1]), uint64(p))
				rank, _ := modp.Rank(a.Matrix(shape[1]), uint64(p))
				form := eliminate(residues(p), a, shape[1])
				check.Same(t, "how many first ones", len(form.pivots), rank)
				for i, entry := range slices.Concat(form.lines...) {
					check.Int(t, "entry", check.Num(residues(p).over(entry, form.lead)), want.At[i])
				}
			}
		}
	}
}

// P17.3, its way: reckoning with fractions it reaches the same form as with integers, and the form's lead stands at each first one.
func TestEliminationOfFractions(t *testing.T) {
	list := check.FracRow("0 1 -1/2 2/3")
	for a := range made.SomeSmall(3, 3, 501, made.First(4)) {
		q := api.QMat{Rows: 3, Cols: 3}
		for _, place := range slices.Concat(a...) {
			q.At = append(q.At, list[place])
		}
		var lines [][]api.Frac
		for _, line := range rowsOf(q) {
			lines = append(lines, slices.Clone(line))
		}
		form := eliminate(fractions(), lines, 3)
		want, columns, _ := Form(q)
		check.Same(t, "the same columns", slices.Equal(form.pivots, columns), true)
		for i, entry := range slices.Concat(form.lines...) {
			check.Frac(t, "entry", fractions().over(entry, form.lead), want.At[i])
		}
		for i, c := range form.pivots {
			check.Frac(t, "lead", form.lines[i][c], form.lead)
		}
	}
}

// Where not all columns are asked for, the others go along: so an inverse comes out beside the unit matrix.
func TestEliminationOfSomeColumns(t *testing.T) {
	form := eliminate(residues(7), [][]int{{0, 2, 1, 0}, {3, 1, 0, 1}}, 2)
	check.Same(t, "the first two columns alone", slices.Equal(form.pivots, []int{0, 1}), true)
	for i, want := range []int{1, 0, 1, 5, 0, 1, 4, 0} {
		entry := form.lines[i/4][i%4]
		check.Same(t, "entry", residues(7).over(entry, form.lead), want)
	}
	none := eliminate(residues(7), [][]int{{0, 2}, {0, 1}}, 1)
	check.Same(t, "no first one", len(none.pivots), 0)
	check.Same(t, "lead", none.lead, 1)
}
