package group_test

import (
	"fmt"
	"slices"
	"testing"

	"trellis/api"
	"trellis/bareiss"
	"trellis/check"
	"trellis/group"
	"trellis/lattice"
	"trellis/made"
	"trellis/mat"
	"trellis/snf"
	"trellis/zint"
)

// someMatrices are of many shapes and all ranks, with numbers of many lengths.
func someMatrices() []api.Mat {
	var all []api.Mat
	for _, shape := range [][2]int{{1, 1}, {1, 4}, {4, 1}, {2, 2}, {3, 3}, {3, 5}, {5, 3}, {6, 6}, {8, 4}, {4, 8}, {9, 9}} {
		for rank := range min(shape[0], shape[1]) + 1 {
			s := made.Source{Words: rank % 3, Seed: uint64(100*shape[0] + 10*shape[1] + rank)}
			all = append(all, s.OfRank(shape[0], shape[1], rank), s.Smith(shape[0], shape[1], s.Chain(rank)))
		}
	}
	return all
}

// groupOf are the rank and the factors that layers 13 and 20 tell.
func groupOf(a api.Mat) (rank int, factors []api.Int) {
	count, _ := bareiss.Rank(a)
	list, _ := snf.Factors(a)
	return a.Cols - count, above(list[:count])
}

// ofFactors are those factors.
func ofFactors(a api.Mat) []api.Int {
	_, factors := groupOf(a)
	return factors
}

// P22.1, P22.2, P22.5 to P22.7, the whole's P8, of many matrices.
func TestMatrices(t *testing.T) {
	for _, a := range someMatrices() {
		rank, factors := groupOf(a)
		holdGroup(t, a, rank, factors)
		holdGroup(t, made.Disguised(a), rank, factors)
		for i, n := range factors {
			check.Same(t, of("is a factor of Of above 1", a), zint.Cmp(n, num(1)), 1)
			_, e := zint.Exact(n, factors[max(0, i-1)])
			check.Same(t, of("does the factor before divide it", a), e, api.OK)
		}
		if a.Rows == a.Cols {
			det, _ := bareiss.Det(a)
			holdSize(t, a, zint.Abs(det))
		}
	}
}

// P22.1 and P22.6: what changes nothing of a group: other rows of the same lattice, rows of other numbers by a unimodular matrix, a column that a row makes 0; rows turned make a group that has the same factors.
func TestSameGroup(t *testing.T) {
	for i, a := range someMatrices() {
		s := made.Source{Seed: uint64(i)}
		rank, factors := groupOf(a)
		mix, _, _ := s.Unimodular(a.Rows)
		change, _, _ := s.Unimodular(a.Cols)
		more, _ := mat.Stack(a, product(s.Whole(2, a.Rows), a))
		beside, _ := mat.Beside(a, s.Whole(a.Rows, 1))
		below, _ := mat.Zero(1, a.Cols)
		last, _ := mat.Beside(below, diagOf(1, 1, nums(-1)))
		wider, _ := mat.Stack(beside, last)
		for _, other := range []api.Mat{product(mix, a), product(a, change), product(mix, a, change), more, wider} {
			holdGroup(t, other, rank, factors)
			holdSame(t, a, other, true)
		}
		holdGroup(t, made.Turned(a), rank+a.Rows-a.Cols, factors)
		holdSame(t, a, made.Turned(a), a.Rows == a.Cols)
	}
}

// P22.3: rows of one class have one Rep, and that of a Rep is itself.
func TestRepOfClasses(t *testing.T) {
	for i, a := range someMatrices() {
		s := made.Source{Words: i % 3, Seed: uint64(i)}
		for range 4 {
			v := s.Whole(1, a.Cols).At
			rep := holdRep(t, a, v)
			check.Ints(t, at("Rep of a Rep", a, v), holdRep(t, a, rep), rep)
			other := sumOf(v, product(s.Whole(1, a.Rows), a).At)
			check.Ints(t, at("Rep of another row of the class", a, v), holdRep(t, made.Disguised(a), disguised(other)), rep)
			lying := product(s.Whole(1, a.Rows), a).At
			check.Same(t, at("is Rep of a row of the lattice zero", a, lying), isZero(holdRep(t, a, lying)), true)
		}
	}
}

// somewhere are rows in no order, rows along a's span, and rows of a's lattice.
func somewhere(s *made.Source, a api.Mat) [][]api.Int {
	saturated, _ := lattice.Saturate(a)
	along := product(s.Whole(1, saturated.Rows), saturated)
	return [][]api.Int{s.Whole(1, a.Cols).At, along.At, product(s.Whole(1, a.Rows), a).At, make([]api.Int, a.Cols)}
}

// P22.4 and P22.5: the order of a class is that of what it is told as; and so many classes has the lattice with the row more modulo the lattice.
func TestOrderOfClasses(t *testing.T) {
	ends, endless := 0, 0
	for i, a := range someMatrices() {
		s := made.Source{Words: i % 3, Seed: uint64(i)}
		rank, factors := groupOf(a)
		c, m := holdCoords(t, a, append(factors, make([]api.Int, rank)...))
		for _, v := range somewhere(&s, a) {
			want := orderOf(m, told(c, m, v))
			holdOrder(t, a, v, want)
			holdOrder(t, made.Disguised(a), disguised(sumOf(v, product(s.Whole(1, a.Rows), a).At)), want)
			with, _ := lattice.Sum(a, api.Mat{Rows: 1, Cols: a.Cols, At: v})
			index, e := lattice.Index(a, with)
			check.Same(t, at("Index", a, v), e, api.OK)
			check.Int(t, at("Order by Index", a, v), want, index)
			if zint.Sign(want) == 0 {
				endless++
			} else {
				ends++
			}
		}
	}
	check.Same(t, "are there orders, and such without end", ends > 50 && endless > 50, true)
}

// P22.4: of k times a row the order is that of the row over what both have in common.
func TestOrderOfMultiples(t *testing.T) {
	for _, c := range [][2]string{{"360", "1"}, {"12 5; 0 30", "1 1"}, {"2 1 0; 0 2 1; 0 0 2", "1 0 0"}, {"0 0 36; 0 10 0", "0 1 1"}} {
		a, v := mx(c[0]), row(c[1])
		order, _ := group.Order(a, v)
		for k := -40; k <= 40; k++ {
			holdOrder(t, a, multiple(num(k), v), orderOf([]api.Int{order}, []api.Int{num(k)}))
		}
	}
}

// P22.5: rows that are told alike are of one class, and of each list there is a row that is told so.
func TestCoordsTell(t *testing.T) {
	for i, a := range someMatrices() {
		s := made.Source{Words: i % 3, Seed: uint64(i)}
		rank, factors := groupOf(a)
		c, m := holdCoords(t, a, append(factors, make([]api.Int, rank)...))
		all, _ := mat.Stack(c, diagOf(len(m), len(m), m))
		for _, v := range somewhere(&s, a) {
			list := told(c, m, v)
			same := told(c, m, sumOf(v, product(s.Whole(1, a.Rows), a).At))
			check.Ints(t, at("what another row of the class is told as", a, v), same, list)
			check.Same(t, at("is it told as the zero row is", a, v), isZero(list), lies(a, v))
			wanted := told(unitOf(len(m)), m, s.Whole(1, len(m)).At)
			x, e := lattice.Solve(all, wanted)
			check.Same(t, fmt.Sprint(of("is there a row for a list", a), wanted), e, api.OK)
			check.Ints(t, of("what that row is told as", a), told(c, m, x[:a.Cols]), wanted)
		}
	}
}

// P22.2 and P22.7: the elements of a group that has an end, counted by their orders: of each k that divides the last factor, those that k makes 0 are as many as the divisors of k and the factors say.
func TestEachByOrders(t *testing.T) {
	for _, text := range []string{"2 4; 6 8", "6 0; 0 4", "3 1; 0 4", "2 0 0; 0 2 1; 0 0 6", "5 5; 0 5", "1 2; 3 4", "3x0", "12"} {
		a := mx(text)
		_, factors, _ := group.Of(a)
		rows, _ := group.Each(a)
		var orders []api.Int
		for v := range rows {
			order, e := group.Order(a, v)
			check.Same(t, at("Order", a, v), e, api.OK)
			orders = append(orders, order)
		}
		for k := 1; k <= 60; k++ {
			want := num(1)
			for _, n := range factors {
				want = zint.Mul(want, orderOf([]api.Int{n}, orderTimes(n, k)))
			}
			count := 0
			for _, order := range orders {
				if _, e := zint.Exact(num(k), order); e == api.OK {
					count++
				}
			}
			check.Int(t, fmt.Sprint("how many of ", text, " are 0 when taken times ", k), num(count), want)
		}
	}
}

// orderTimes is the element of the residues modulo n whose order is the greatest common divisor of n and k.
func orderTimes(n api.Int, k int) []api.Int {
	size, _ := zint.Small(n)
	for order := int(size); order > 0; order-- {
		if int(size)%order == 0 && k%order == 0 {
			return nums(int(size) / order)
		}
	}
	return nil
}

// P22.6: groups of one rank are alike just if their factors are.
func TestSameOfOneRank(t *testing.T) {
	// The matrices of one rank, so that it is the factors which often tell.
	byRank := map[int][]api.Mat{}
	for _, a := range someMatrices() {
		rank, _ := groupOf(a)
		byRank[rank] = append(byRank[rank], a)
		holdSame(t, a, unitOf(a.Cols), rank == 0 && len(ofFactors(a)) == 0)
	}
	for _, all := range byRank {
		for i, a := range all {
			for _, b := range all[i:] {
				holdSame(t, a, b, slices.EqualFunc(ofFactors(a), ofFactors(b), isEqual))
			}
		}
	}
}
