package minors_test

import (
	"slices"
	"testing"

	"trellis/api"
	"trellis/bareiss"
	"trellis/bezout"
	"trellis/check"
	"trellis/made"
	"trellis/mat"
	"trellis/minors"
	"trellis/modp"
	"trellis/zint"
)

// picked is the matrix of these rows and columns.
func picked(a api.Mat, rows, cols []int) api.Mat {
	part, _ := mat.Pick(a, rows, cols)
	return part
}

// compounded is the matrix of the determinants at all choices of k rows and k columns, each found by itself.
func compounded(a api.Mat, k int, det func(a api.Mat) api.Int) api.Mat {
	all := api.Mat{Rows: choices(a.Rows, k), Cols: choices(a.Cols, k)}
	for _, rows := range made.Choices(first(a.Rows), k) {
		for _, cols := range made.Choices(first(a.Cols), k) {
			all.At = append(all.At, det(picked(a, rows, cols)))
		}
	}
	return all
}

// detOf is the determinant without fractions.
func detOf(a api.Mat) api.Int {
	d, _ := bareiss.Det(a)
	return d
}

// holdSizes holds Gcd and Compound at k, in other forms of the entries too.
func holdSizes(t *testing.T, a api.Mat, k int, det func(a api.Mat) api.Int) {
	t.Helper()
	all := compounded(a, k, det)
	g := bezout.GcdAll(all.At)
	for _, form := range []api.Mat{a, made.Disguised(a)} {
		if max(all.Rows, all.Cols) <= api.MaxDim {
			holdCompound(t, form, k, all)
		}
		holdGcd(t, form, k, g)
	}
}

// P14.2: integers of many sizes and both signs, in least form or not, at lists of places in any order, by all ways to pick entries.
func TestIntegers(t *testing.T) {
	all := check.Integers()
	s := &made.Source{Seed: 5}
	for from := range len(all) {
		a := check.Filled(4, 5, slices.Concat(all[from:], all[:from]))
		for count := range 5 {
			rows, cols := s.Order(4)[:count], s.Order(5)[:count]
			holdMinor(t, a, rows, cols, made.Det(picked(a, rows, cols)))
		}
		for k := range 5 {
			holdSizes(t, a, k, made.Det)
		}
	}
}

// P14.3 and P14.4: matrices of each shape and rank up to 6 rows, at each number of rows and columns, by all ways to pick entries.
func TestSizesByWays(t *testing.T) {
	for rows := range 6 {
		for cols := range 6 {
			for rank := range min(rows, cols) + 1 {
				for words := range 3 {
					s := &made.Source{Words: words, Seed: uint64(1000*rows + 100*cols + 10*rank)}
					a := s.OfRank(rows, cols, rank)
					for k := range min(rows, cols) + 1 {
						holdSizes(t, a, k, made.Det)
					}
				}
			}
		}
	}
}

// P14.3 and P14.4: larger shapes of each rank, where nearly all rows or columns are picked, or few.
func TestSizesOfLarger(t *testing.T) {
	for _, c := range [][3]int{
		{7, 7, 6}, {7, 7, 5}, {7, 7, 2}, {9, 7, 6}, {7, 9, 6}, {9, 7, 7}, {7, 9, 7}, {10, 10, 9}, {10, 10, 10}, {11, 9, 9}, {9, 11, 9}, {14, 13, 13}, {1, 20, 1}, {20, 1, 1}, {20, 2, 2}, {2, 20, 2},
	} {
		for rank := max(0, c[2]-2); rank <= min(c[0], c[1]); rank++ {
			s := &made.Source{Words: rank % 3, Seed: uint64(rank)}
			holdSizes(t, s.OfRank(c[0], c[1], rank), c[2], detOf)
		}
	}
}

// P14.3 and P14.4: rows and columns of zeros, or such as stand twice, anywhere: so the pivots are found in no order.
func TestSizesWithGaps(t *testing.T) {
	for seed := range 200 {
		s := &made.Source{Seed: uint64(1000 * seed)}
		rows, cols := 3+int(s.Word()%4), 3+int(s.Word()%4)
		a := s.Whole(rows, cols)
		for i := range a.At {
			if s.Word()%3 > 0 {
				a.At[i] = num(0)
			}
		}
		for k := range min(rows, cols) + 1 {
			holdSizes(t, a, k, detOf)
		}
	}
}

// P10: the compound matrix of a product is the product of the compound matrices.
func TestProductsOfCompounds(t *testing.T) {
	for _, c := range [][4]int{{2, 3, 2, 2}, {3, 5, 4, 3}, {5, 5, 5, 2}, {6, 6, 6, 5}, {8, 7, 9, 7}, {3, 11, 2, 2}, {11, 11, 11, 9}, {7, 12, 7, 1}, {20, 20, 20, 19}, {20, 21, 20, 20}, {4, 0, 4, 0}} {
		for words := range 3 {
			s := &made.Source{Words: words, Seed: uint64(c[0] + words)}
			a, b := s.Whole(c[0], c[1]), s.Whole(c[1], c[2])
			ofA, e := minors.Compound(a, c[3])
			check.Same(t, of("Compound", a, c[3]), e, api.OK)
			ofB, e := minors.Compound(b, c[3])
			check.Same(t, of("Compound", b, c[3]), e, api.OK)
			holdCompound(t, product(a, b), c[3], product(ofA, ofB))
		}
	}
}

// P5: the minor of all rows and columns is the determinant, as bareiss and, modulo primes, modp answer it; Gcd is its size, Compound it alone.
func TestMinorOfAll(t *testing.T) {
	for _, n := range []int{0, 1, 2, 3, 6, 20, 40} {
		for words := range 2 {
			s := &made.Source{Words: words, Seed: uint64(n)}
			a := s.Whole(n, n)
			d := detOf(a)
			holdMinor(t, a, first(n), first(n), d)
			holdGcd(t, a, n, zint.Abs(d))
			holdCompound(t, a, n, api.Mat{Rows: 1, Cols: 1, At: []api.Int{d}})
			for _, p := range []uint64{2, 3, 2147483647} {
				rest, _ := zint.Mod(d, plus(p))
				want, _ := modp.Det(a, p)
				check.Int(t, of("the determinant modulo a prime", a), rest, zint.Of(int64(want)))
			}
		}
	}
}

// P14.2: another order of the places gives the same minor with the sign of that order.
func TestOrders(t *testing.T) {
	for n := range 9 {
		s := &made.Source{Words: n % 3, Seed: uint64(n)}
		a := s.Whole(n+2, n+3)
		for range 5 {
			rows, cols := s.Places(n, a.Rows), s.Places(n, a.Cols)
			order, other := s.Order(n), s.Order(n)
			want := detOf(picked(a, rows, cols))
			if made.IsOdd(order) != made.IsOdd(other) {
				want = zint.Neg(want)
			}
			holdMinor(t, a, at(rows, order), at(cols, other), want)
		}
	}
}

// at are the places of a list in an order.
func at(places, order []int) []int {
	var all []int
	for _, i := range order {
		all = append(all, places[i])
	}
	return all
}

// holdLawsOfAdjugate: both products with a are the determinant times the unit matrix; turned, it is that of a turned.
func holdLawsOfAdjugate(t *testing.T, a api.Mat) {
	t.Helper()
	adj, e := minors.Adjugate(a)
	check.Same(t, of("Adjugate", a), e, api.OK)
	scaled, _ := mat.Scale(detOf(a), ones(a.Rows, a.Rows))
	check.Mat(t, of("a times its adjugate", a), product(a, adj), scaled)
	check.Mat(t, of("the adjugate times a", a), product(adj, a), scaled)
	holdAdjugate(t, made.Turned(a), made.Turned(adj))
	holdAdjugate(t, made.Disguised(a), adj)
}

// holdLawsOfInverse: both products with a are d times the unit matrix, and d is the least; where there is none the determinant is 0.
func holdLawsOfInverse(t *testing.T, a api.Mat) {
	t.Helper()
	n, d, e := minors.Inverse(made.Disguised(a))
	if zint.Sign(detOf(a)) == 0 {
		check.Same(t, of("Inverse", a), e, api.ErrNone)
		return
	}
	check.Same(t, of("Inverse", a), e, api.OK)
	scaled, _ := mat.Scale(d, ones(a.Rows, a.Rows))
	check.Mat(t, of("a times its inverse", a), product(a, n), scaled)
	check.Mat(t, of("the inverse times a", a), product(n, a), scaled)
	check.Same(t, of("the sign of the number", a), zint.Sign(d), 1)
	// A lesser one would leave out a common divisor of all.
	check.Int(t, of("what could be left out", a), bezout.Gcd(d, bezout.GcdAll(n.At)), num(1))
	holdInverse(t, made.Turned(a), made.Turned(n), d)
}

// P14.5 and P14.6 at matrices of each rank.
func TestLawsOfInverse(t *testing.T) {
	for _, n := range []int{1, 2, 3, 4, 5, 8, 13} {
		for rank := range n + 1 {
			for words := range 4 {
				s := &made.Source{Words: words, Seed: uint64(1000*n + 10*rank + words)}
				a := s.OfRank(n, n, rank)
				holdLawsOfAdjugate(t, a)
				holdLawsOfInverse(t, a)
			}
		}
	}
}

// P14.5: each entry is the minor at all other rows and columns, with its sign.
func TestEntriesOfAdjugate(t *testing.T) {
	for _, n := range []int{1, 2, 3, 4, 5, 7, 12} {
		for rank := max(0, n-2); rank <= n; rank++ {
			s := &made.Source{Words: n % 3, Seed: uint64(10*n + rank)}
			a := s.OfRank(n, n, rank)
			adj := api.Mat{Rows: n, Cols: n}
			for i := range n {
				for j := range n {
					d := detOf(picked(a, slices.Delete(first(n), j, j+1), slices.Delete(first(n), i, i+1)))
					if (i+j)%2 == 1 {
						d = zint.Neg(d)
					}
					adj.At = append(adj.At, d)
				}
			}
			holdAdjugate(t, a, adj)
		}
	}
}

// P14.5: the adjugate of a product is the product of the adjugates the other way round, of such as have no inverse too.
func TestAdjugateOfProduct(t *testing.T) {
	for _, n := range []int{0, 1, 2, 3, 4, 6, 9} {
		for _, less := range []int{0, 1, 2} {
			s := &made.Source{Words: less, Seed: uint64(10*n + less)}
			a, b := s.Whole(n, n), s.OfRank(n, n, max(0, n-less))
			ofA, e := minors.Adjugate(a)
			check.Same(t, of("Adjugate", a), e, api.OK)
			ofB, e := minors.Adjugate(b)
			check.Same(t, of("Adjugate", b), e, api.OK)
			holdAdjugate(t, product(a, b), product(ofB, ofA))
		}
	}
}
