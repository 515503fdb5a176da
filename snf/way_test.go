package snf

import (
	"slices"
	"testing"

	"trellis/api"
	"trellis/check"
	"trellis/made"
	"trellis/mat"
	"trellis/zint"
)

// P20.6, its way: what sorts all lists of zeros and ones by putting the lesser first sorts all lists.
func TestExchanges(t *testing.T) {
	for n := range 17 {
		for bits := range 1 << n {
			list := make([]int, n)
			for i := range list {
				list[i] = bits >> i & 1
			}
			holdSorted(t, list)
		}
	}
	for _, n := range []int{33, 64, 100, 1000} {
		s := made.Source{Seed: uint64(n)}
		for range 10 {
			holdSorted(t, s.Order(n))
		}
	}
}

// holdSorted asks the pairs to sort a list, and to be pairs of places in it.
func holdSorted(t *testing.T, list []int) {
	t.Helper()
	for i, j := range exchanges(len(list)) {
		check.Same(t, "are there such places", 0 <= i && i < j && j < len(list), true)
		list[i], list[j] = min(list[i], list[j]), max(list[i], list[j])
	}
	check.Same(t, "is it sorted", slices.IsSorted(list), true)
}

// P20.6, its way: a loop over the pairs may be left, and there are none where there are no two places.
func TestExchangesLeft(t *testing.T) {
	for n := range 40 {
		whole := 0
		for range exchanges(n) {
			whole++
		}
		check.Same(t, "are there pairs", whole > 0, n > 1)
		for end := range whole {
			count := 0
			for range exchanges(n) {
				if count == end {
					break
				}
				count++
			}
			check.Same(t, "how many until the loop was left", count, end)
		}
	}
	for range exchanges(-1) {
		t.Error("a pair of a list of -1 numbers")
	}
}

// P20.2, its way: the multipliers have the determinant 1, and leave divisor and multiple on the diagonal.
func TestMultipliers(t *testing.T) {
	list := check.Nums(0, 1, 2, 3, 4, 6, 9, 12, 35, 64)
	list = append(list, check.Plus(0, 1), check.Plus(0, 6), zint.Least(check.Plus(check.Mixed(4, 9)...)), zint.Least(check.Plus(check.Mixed(3, 8)...)))
	for _, n := range list {
		for _, m := range list {
			if divides(n, m) {
				continue
			}
			rows, cols := multipliers(n, m)
			g, l := divisorFirst(n, m)
			from, _ := mat.Diag(2, 2, []api.Int{n, m})
			want, _ := mat.Diag(2, 2, []api.Int{g, l})
			check.Mat(t, "with both sides", made.Product(asMatrix(rows), from, made.Turned(asMatrix(cols))), want)
			for _, p := range []pair{rows, cols} {
				check.Int(t, "determinant", made.Det(asMatrix(p)), check.Num(1))
				unit := made.Product(asMatrix(p), made.Turned(asMatrix(p.upendedInverse())))
				check.Mat(t, "times its inverse", unit, check.Matrix("1 0; 0 1"))
			}
		}
	}
}

// asMatrix is the matrix of a pair.
func asMatrix(p pair) api.Mat {
	return api.Mat{Rows: 2, Cols: 2, At: slices.Concat(p[0][:], p[1][:])}
}

// P20.2, its way: after each step both sides make d of the matrix at the beginning, and what undoes them is their inverse.
func TestWork(t *testing.T) {
	for seed := range 30 {
		s := made.Source{Words: seed % 3, Seed: uint64(seed)}
		a := s.Smith(5, 7, s.Chain(seed%6))
		if seed%3 == 0 {
			a, _ = mat.Diag(7, 5, s.Whole(1, 5).At)
		}
		w := workOn(a)
		holdWork(t, "at the beginning", w, a)
		w.settle()
		holdWork(t, "with its rows settled", w, a)
		w.turn()
		holdWork(t, "turned", w, made.Turned(a))
		w.turn()
		w.makeDiagonal()
		holdWork(t, "diagonal", w, a)
		check.Same(t, "is it diagonal", isDiagonal(w.d), true)
		w.makeChain()
		holdWork(t, "a chain", w, a)
		check.Same(t, "is it a chain", isDiagonal(w.d) && isChain(diagonal(w.d)), true)
	}
}

// holdWork asks for what a work is, with this matrix at the beginning.
func holdWork(t *testing.T, when string, w *work, a api.Mat) {
	t.Helper()
	least, _ := mat.Least(a)
	got, _ := mat.Least(w.d)
	check.Mat(t, when+": both sides times the matrix", made.Product(w.rows.does, least, made.Turned(w.cols.does)), got)
	for _, one := range []side{w.rows, w.cols} {
		unit, _ := mat.Unit(one.does.Rows)
		check.Mat(t, when+": what does times what undoes", made.Product(one.does, made.Turned(one.undoes)), unit)
	}
}

// P20.2, its way: the numbers of U and V stay about as long as the product of what stands on the diagonal, where no two have a common divisor and all must be mixed.
func TestShortMultipliers(t *testing.T) {
	var list []api.Int
	for n, prime := range check.Sieve(1<<20, 1<<20+2000) {
		if prime && len(list) < 64 {
			list = append(list, check.Num(1<<20+n))
		}
	}
	a, _ := mat.Diag(64, 64, list)
	full, e := Full(a)
	check.Same(t, "Full of primes", e, api.OK)
	// The product has about 1300 binary digits, 21 words.
	for _, part := range []api.Mat{full.U, full.V, full.Ui, full.Vi} {
		for _, n := range part.At {
			check.Same(t, "is it at most three times as long", len(n.Mag) <= 63, true)
		}
	}
}
