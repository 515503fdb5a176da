package simplex_test

import (
	"slices"
	"testing"

	"trellis/api"
	"trellis/check"
	"trellis/lattice"
	"trellis/made"
	"trellis/mat"
	"trellis/zint"
)

// chain is two matrices that multiply to zero, and the homology between them.
type chain struct {
	a, b    api.Mat
	rank    int
	torsion []api.Int
}

// chainOf makes one: the last rows of a unimodular matrix's inverse are a kernel, of which a has multiples as the list says.
func chainOf(s *made.Source, rows, middle, cols, rankOfB int, list []api.Int) chain {
	u, inverse, _ := s.Unimodular(middle)
	rests, _ := mat.Stack(zeros(middle-rankOfB, cols), s.Smith(rankOfB, cols, s.Chain(min(rankOfB, cols))))
	ofA := s.Smith(rows, middle-rankOfB, list)
	left, _ := mat.Beside(ofA, zeros(rows, rankOfB))
	c := chain{product(left, inverse), product(u, rests), middle - rankOfB - len(list), nil}
	for _, n := range list {
		if zint.Cmp(n, num(1)) != 0 {
			c.torsion = append(c.torsion, zint.Least(n))
		}
	}
	return c
}

func zeros(rows, cols int) api.Mat {
	a, _ := mat.Zero(rows, cols)
	return a
}

// P24.3: matrices that are made so that the homology between them is known, of many shapes, with numbers of many lengths.
func TestMadeChains(t *testing.T) {
	for _, shape := range [][5]int{
		// Rows of a, columns of a, columns of b, rank of b, rank of a.
		{0, 3, 0, 0, 0}, {1, 1, 1, 0, 1}, {1, 2, 1, 1, 1}, {2, 2, 3, 1, 1}, {3, 3, 2, 1, 2}, {3, 3, 2, 1, 1}, {4, 3, 2, 1, 2}, {2, 5, 4, 2, 2}, {5, 5, 5, 2, 3}, {6, 5, 5, 3, 2}, {6, 8, 4, 3, 4}, {10, 9, 9, 4, 5}, {12, 14, 10, 5, 7}, {3, 14, 14, 8, 3}, {20, 20, 20, 10, 9}, {64, 20, 64, 10, 10},
	} {
		for words := range 3 {
			s := &made.Source{Words: min(words, 20/shape[1]), Seed: uint64(100*shape[0] + 10*shape[1] + words)}
			c := chainOf(s, shape[0], shape[1], shape[2], shape[3], s.Chain(shape[4]))
			holdGroup(t, c.a, c.b, c.rank, c.torsion)
			holdGroup(t, made.Disguised(c.a), made.Disguised(c.b), c.rank, c.torsion)
		}
	}
}

// P24.3: matrices of as many rows and columns as there may be.
func TestGreatestChains(t *testing.T) {
	for _, ranks := range [][2]int{{0, 64}, {32, 32}, {20, 40}, {63, 1}, {64, 0}} {
		s := &made.Source{Seed: uint64(ranks[0])}
		var list []api.Int
		for i := range ranks[1] {
			list = append(list, num([]int{1, 2, 6, 30}[i*4/ranks[1]]))
		}
		c := chainOf(s, 64, 64, 64, ranks[0], list)
		holdGroup(t, c.a, c.b, c.rank, c.torsion)
	}
}

// P24.3: rows of a that are mixed, the rows and columns between that are mixed, and columns of b that are mixed, by unimodular matrices, leave the homology as it is; so do rows of a that are none more, and columns of b.
func TestMixedChains(t *testing.T) {
	for seed := range 30 {
		s := &made.Source{Words: seed % 3, Seed: uint64(seed)}
		middle := 2 + seed%6
		rank := seed % middle
		c := chainOf(s, 1+seed%7, middle, 1+seed%5, min(rank, 1+seed%5), s.Chain(min(1+seed%7, middle-min(rank, 1+seed%5))))
		u, inverse, _ := s.Unimodular(middle)
		left, _, _ := s.Unimodular(c.a.Rows)
		right, _, _ := s.Unimodular(c.b.Cols)
		holdGroup(t, product(left, c.a, u), product(inverse, c.b, right), c.rank, c.torsion)
		more, _ := mat.Stack(product(s.Whole(2, c.a.Rows), c.a), c.a, zeros(1, middle))
		wider, _ := mat.Beside(c.b, product(c.b, s.Whole(c.b.Cols, 3)))
		holdGroup(t, more, wider, c.rank, c.torsion)
	}
}

// P24.3: of a matrix and its whole kernel nothing is left; of nothing and a matrix, its kernel.
func TestKernels(t *testing.T) {
	for seed := range 40 {
		s := &made.Source{Words: seed % 3, Seed: uint64(seed)}
		rows, cols := 1+seed%6, 1+seed/6%5
		b := s.OfRank(rows, cols, seed%(min(rows, cols)+1))
		kernel, _ := lattice.Kernel(b)
		holdGroup(t, kernel, b, 0, nil)
		holdGroup(t, api.Mat{Cols: rows}, b, kernel.Rows, nil)
		holdGroup(t, zeros(2, rows), b, kernel.Rows, nil)
		six, _ := mat.Scale(num(-6), kernel)
		holdGroup(t, six, b, 0, slices.Repeat(nums(6), kernel.Rows))
		large, _ := mat.Scale(minus(0, 3), kernel)
		holdGroup(t, large, b, 0, check.Filled(1, kernel.Rows, []api.Int{plus(0, 3)}).At)
	}
}
