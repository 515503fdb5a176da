package group_test

import (
	"testing"

	"trellis/api"
	"trellis/bareiss"
	"trellis/check"
	"trellis/group"
	"trellis/made"
	"trellis/zint"
)

// P22.1 to P22.7: of a list on the diagonal, between two unimodular matrices, the group comes back; and rows by the right one have the classes and orders of their numbers modulo the list.
func TestGroupsComeBack(t *testing.T) {
	for _, shape := range made.Shapes() {
		rows, cols, rank := shape[0], shape[1], shape[2]
		s := made.SourceFor(shape)
		list := s.Chain(rank)
		left, _, _ := s.Unimodular(rows)
		right, _, _ := s.Unimodular(cols)
		a := made.Disguised(product(left, diagOf(rows, cols, list), right))
		holdGroup(t, a, cols-rank, above(list))
		m := append(list, make([]api.Int, cols-rank)...)
		for i := range 6 {
			numbers := s.Whole(1, cols).At
			if i%2 == 0 {
				// Along the lattice's span.
				numbers = append(numbers[:rank], make([]api.Int, cols-rank)...)
			}
			v := disguised(product(api.Mat{Rows: 1, Cols: cols, At: numbers}, right).At)
			holdOrder(t, a, v, orderOf(m, numbers))
			holdRep(t, a, v)
		}
	}
}

// P22.1, P22.4 and P22.5: powers of one prime, of which each is told apart, and the rows that are made of one of them alone.
func TestPowersComeBack(t *testing.T) {
	for _, n := range []int{2, 3, 5, 9, 17, 40} {
		s := made.Source{Seed: uint64(n)}
		var list []api.Int
		for i := range n {
			power, _ := zint.Pow(num(2+n%2), i/2)
			list = append(list, power)
		}
		left, _, _ := s.Unimodular(n)
		right, _, _ := s.Unimodular(n)
		a := product(left, diagOf(n, n, list), right)
		holdGroup(t, a, 0, above(list))
		for i, power := range list {
			holdOrder(t, a, right.At[i*n:(i+1)*n], power)
		}
	}
}

// P22.1 to P22.5 at a matrix of 64 rows with numbers of a word everywhere.
func TestLarge(t *testing.T) {
	s := made.Source{Words: 1, Seed: 1}
	a := s.Whole(64, 64)
	det, _ := bareiss.Det(a)
	_, factors, e := group.Of(a)
	check.Same(t, "Of 64 by 64", e, api.OK)
	check.Int(t, "the product of Of 64 by 64", productOf(factors), zint.Abs(det))
	c, m := holdGroup(t, a, 0, factors)
	v := s.Whole(1, 64).At
	holdOrder(t, a, v, orderOf(m, told(c, m, v)))
	check.Ints(t, "what Rep is told as", told(c, m, holdRep(t, a, v)), told(c, m, v))
	less := s.OfRank(40, 64, 30)
	rank, factors := groupOf(less)
	check.Same(t, "rank of 40 by 64", rank, 34)
	holdGroup(t, less, rank, factors)
}
