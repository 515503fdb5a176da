package hnf_test

import (
	"slices"
	"testing"

	"trellis/api"
	"trellis/bareiss"
	"trellis/bezout"
	"trellis/check"
	"trellis/hnf"
	"trellis/made"
	"trellis/mat"
	"trellis/minors"
	"trellis/zint"
)

// someMatrices are of many shapes and all ranks, with numbers of many lengths.
func someMatrices() []api.Mat {
	var all []api.Mat
	for _, shape := range [][2]int{{1, 1}, {1, 4}, {4, 1}, {2, 2}, {3, 3}, {3, 5}, {5, 3}, {6, 6}, {9, 4}, {4, 9}, {12, 12}} {
		for rank := range min(shape[0], shape[1]) + 1 {
			s := made.Source{Words: rank % 3, Seed: uint64(100*shape[0] + 10*shape[1] + rank)}
			all = append(all, s.OfRank(shape[0], shape[1], rank), s.Smith(shape[0], shape[1], s.Chain(rank)))
		}
	}
	return all
}

// basisOf is what Basis answers.
func basisOf(t *testing.T, a api.Mat) api.Mat {
	t.Helper()
	basis, e := hnf.Basis(a)
	check.Same(t, of("Basis", a), e, api.OK)
	return basis
}

// P18.1, P18.2 and the whole's P3: of many matrices all that the document says, and the same basis wherever the lattice is the same.
func TestSameLattice(t *testing.T) {
	for i, a := range someMatrices() {
		holdAll(t, a)
		holdAll(t, made.Disguised(a))
		basis := basisOf(t, a)
		s := made.Source{Words: i % 3, Seed: uint64(i)}
		mix, _, _ := s.Unimodular(a.Rows)
		holdBasis(t, product(mix, a), basis)
		more, _ := mat.Stack(product(s.Whole(3, a.Rows), a), a)
		holdBasis(t, more, basis)
		turned, _ := mat.Scale(num(-1), a)
		holdBasis(t, turned, basis)
		other, _ := mat.Pick(a, append(s.Order(a.Rows), 0, a.Rows-1), first(a.Cols))
		holdBasis(t, other, basis)
		holdBasis(t, basis, basis)
	}
}

// P18.1: a lattice that is another has another basis.
func TestOtherLattice(t *testing.T) {
	for _, a := range someMatrices() {
		basis := basisOf(t, a)
		double, _ := mat.Scale(num(2), a)
		want, _ := mat.Scale(num(2), basis)
		holdBasis(t, double, want)
		same, _ := mat.Equal(basis, want)
		check.Same(t, of("twice the lattice is the same", a), same, basis.Rows == 0)
	}
}

// pivotsProduct is the product of the pivots of a form.
func pivotsProduct(t *testing.T, h api.Mat) api.Int {
	t.Helper()
	pivots, e := hnf.Pivots(h)
	check.Same(t, of("Pivots", h), e, api.OK)
	whole := num(1)
	for i, c := range pivots {
		whole = zint.Mul(whole, h.At[i*h.Cols+c])
	}
	return whole
}

// P18.1 and P18.3: the pivots stand in the pivot columns of layer 13, and their product is the greatest common divisor of the minors there, the size of the determinant of a square matrix that has one but 0.
func TestPivotsOfForms(t *testing.T) {
	for _, a := range someMatrices() {
		h, _ := hnf.Form(a)
		columns, _ := bareiss.Pivots(a)
		holdPivots(t, h, columns)
		check.Same(t, of("rows of Basis", a), basisOf(t, a).Rows, len(columns))
		whole := pivotsProduct(t, h)
		if a.Rows == a.Cols && len(columns) == a.Rows {
			det, _ := bareiss.Det(a)
			check.Int(t, of("product of the pivots", a), whole, zint.Abs(det))
		}
		if a.Rows > 6 {
			continue
		}
		part, _ := mat.Pick(a, first(a.Rows), columns)
		shared, e := minors.Gcd(part, len(columns))
		check.Same(t, of("Gcd", part), e, api.OK)
		check.Int(t, of("product of the pivots by minors", a), whole, shared)
	}
}

// P18.1: a single column has the greatest common divisor, a single row a first number above 0.
func TestSingleLines(t *testing.T) {
	all := check.Integers()
	for from := range len(all) {
		column := api.Mat{Rows: 5, Cols: 1, At: check.Filled(1, 5, slices.Concat(all[from:], all[:from])).At}
		want := check.Filled(5, 1, nums(0))
		want.At[0] = bezout.GcdAll(column.At)
		holdForm(t, column, want)
		holdFull(t, column)
		line := api.Mat{Rows: 1, Cols: 5, At: column.At}
		least, _ := mat.Least(line)
		if place := leads(line)[0]; place < 5 && zint.Sign(line.At[place]) < 0 {
			least, _ = mat.Scale(num(-1), line)
		}
		holdForm(t, line, least)
		holdFull(t, line)
	}
}

// P18.1 to P18.3: integers of many sizes and both signs, in least form or not.
func TestIntegers(t *testing.T) {
	all := check.Integers()
	for n := range 5 {
		for from := 0; from < len(all); from += 3 {
			list := slices.Concat(all[from:], all[:from])
			for _, cols := range []int{n, n + 2, max(0, n-2)} {
				holdAll(t, check.Filled(n, cols, list))
			}
		}
	}
}

// inserted is the basis that the rows of a give, put in one after the other.
func inserted(t *testing.T, begin, a api.Mat, order []int) api.Mat {
	t.Helper()
	for _, i := range order {
		next, e := hnf.Insert(begin, a.At[i*a.Cols:(i+1)*a.Cols])
		check.Same(t, of("Insert", begin), e, api.OK)
		holdIsForm(t, next, true)
		begin = next
	}
	return begin
}

// allOrders are all orders of the first n places.
func allOrders(n int) [][]int {
	if n == 0 {
		return [][]int{nil}
	}
	var all [][]int
	for _, order := range allOrders(n - 1) {
		for place := range n {
			all = append(all, slices.Insert(slices.Clone(order), place, n-1))
		}
	}
	return all
}

// P18.5: in whatever order the rows come, some of them twice, they give the basis of them all.
func TestInsertInAnyOrder(t *testing.T) {
	for _, text := range []string{"4 6; 6 9", "2 0; 0 3; 1 1", "1 2 3; 4 5 6; 7 8 9", "6 0 4; -4 2 0; 0 9 10; 3 3 3", "0 0; 4 -6; 0 0; -10 15", "12; 18; -8; 27", "0 2 0 1; 4 0 0 6; 0 0 -3 3; 5 5 5 5"} {
		a := mx(text)
		basis := basisOf(t, a)
		for _, order := range allOrders(a.Rows) {
			check.Mat(t, of("rows put in one after the other", a), inserted(t, api.Mat{Cols: a.Cols}, a, order), basis)
			check.Mat(t, of("rows put in beside zeros", a), inserted(t, check.Filled(3, a.Cols, nums(0)), a, append(order, 0)), basis)
		}
	}
	for i, a := range someMatrices() {
		basis := basisOf(t, a)
		s := made.Source{Seed: uint64(i)}
		for range 3 {
			order := slices.Concat(s.Order(a.Rows), s.Places(a.Rows/2, a.Rows))
			check.Mat(t, of("rows put in one after the other", made.Disguised(a)), inserted(t, api.Mat{Cols: a.Cols}, a, order), basis)
		}
		// From the basis of some rows on, with zeros below it.
		half := rowsFrom(a, 0, a.Rows/2)
		begin, _ := hnf.Form(half)
		check.Mat(t, of("the later rows put in", a), inserted(t, begin, a, first(a.Rows)[a.Rows/2:]), basis)
	}
}

// P18.4: rows that differ by a row of the lattice have the same rest; those of the lattice have the rest 0.
func TestSameRest(t *testing.T) {
	for i, a := range someMatrices() {
		h, _ := hnf.Form(a)
		s := made.Source{Words: i % 3, Seed: uint64(i)}
		v := s.Whole(1, a.Cols)
		holdRest(t, h, v.At)
		rest, _, _ := hnf.Reduce(h, v.At)
		for range 4 {
			inside := product(s.Whole(1, a.Rows), a)
			holdRest(t, h, inside.At)
			zero, _, _ := hnf.Reduce(h, inside.At)
			check.Ints(t, of("rest of a row of the lattice", h), zero, make([]api.Int, a.Cols))
			moved, _ := mat.Add(v, inside)
			same, _, _ := hnf.Reduce(h, made.Disguised(moved).At)
			check.Ints(t, of("rest of a row moved by one of the lattice", h), same, rest)
		}
	}
}

// P18.4 and P18.5: a row lies in the lattice just if it has the rest 0, and just then putting it in changes nothing.
func TestInsertOfRest(t *testing.T) {
	for i, a := range someMatrices() {
		basis := basisOf(t, a)
		s := made.Source{Seed: uint64(i)}
		for _, v := range []api.Mat{s.Whole(1, a.Cols), product(s.Whole(1, a.Rows), a)} {
			rest, _, _ := hnf.Reduce(basis, v.At)
			want, _ := hnf.Insert(basis, v.At)
			holdInsert(t, basis, rest, want)
			same, _ := mat.Equal(want, basis)
			inside := !slices.ContainsFunc(rest, func(n api.Int) bool { return zint.Sign(n) != 0 })
			check.Same(t, of("a row of the lattice put in changes nothing", basis), same, inside)
			holdRest(t, want, v.At)
			zero, _, _ := hnf.Reduce(want, v.At)
			check.Ints(t, of("rest of a row that was put in", want), zero, make([]api.Int, a.Cols))
		}
	}
}
