package group_test

import (
	"fmt"
	"iter"
	"slices"
	"testing"

	"trellis/api"
	"trellis/bezout"
	"trellis/check"
	"trellis/group"
	"trellis/hnf"
	"trellis/lattice"
	"trellis/made"
	"trellis/mat"
	"trellis/zint"
)

// The integers, rows and matrices of the tests.
var (
	num, nums   = check.Num, check.Nums
	plus, minus = check.Plus, check.Minus
	row, mx     = check.Row, check.Matrix
	first       = made.First
	product     = made.Product
)

// called is how a matrix is named in a test's report.
func called(a api.Mat) string {
	if len(a.At) > 30 {
		return fmt.Sprintf(" of %d by %d", a.Rows, a.Cols)
	}
	return fmt.Sprintf("(%d by %d %v)", a.Rows, a.Cols, a.At)
}

// of names a call in a test's report.
func of(name string, matrices ...api.Mat) string {
	for _, a := range matrices {
		name += called(a)
	}
	return name
}

// at names a call at a row in a test's report.
func at(name string, a api.Mat, v []api.Int) string {
	return of(name, a, api.Mat{Rows: 1, Cols: len(v), At: v})
}

// unitOf is the unit matrix of n rows.
func unitOf(n int) api.Mat {
	unit, _ := mat.Unit(n)
	return unit
}

// diagOf is the matrix of this shape with the list on its diagonal.
func diagOf(rows, cols int, list []api.Int) api.Mat {
	a, _ := mat.Diag(rows, cols, list)
	return a
}

// disguised is a row in other forms.
func disguised(v []api.Int) []api.Int {
	return made.Disguised(api.Mat{Rows: 1, Cols: len(v), At: v}).At
}

// isEqual says if two numbers are one.
func isEqual(n, m api.Int) bool { return zint.Cmp(n, m) == 0 }

// isZero says if all numbers are 0.
func isZero(list []api.Int) bool {
	return !slices.ContainsFunc(list, func(n api.Int) bool { return zint.Sign(n) != 0 })
}

// productOf is the product of the numbers.
func productOf(list []api.Int) api.Int {
	whole := num(1)
	for _, n := range list {
		whole = zint.Mul(whole, n)
	}
	return whole
}

// multiple is a row so many times.
func multiple(k api.Int, v []api.Int) []api.Int {
	times, _ := mat.Scale(k, api.Mat{Rows: 1, Cols: len(v), At: v})
	return times.At
}

// sumOf is the sum of two rows.
func sumOf(v, w []api.Int) []api.Int {
	sum, _ := mat.Add(api.Mat{Rows: 1, Cols: len(v), At: v}, api.Mat{Rows: 1, Cols: len(w), At: w})
	return sum.At
}

// lies says if a row lies in a's lattice, by layer 21.
func lies(a api.Mat, v []api.Int) bool {
	has, _ := lattice.Has(a, v)
	return has
}

// above are the numbers that are not 1.
func above(list []api.Int) []api.Int {
	return slices.DeleteFunc(slices.Clone(list), func(n api.Int) bool { return isEqual(n, num(1)) })
}

// told is how a row is told by Coords: its numbers times c, each modulo the number of m at its place, where that is not 0.
func told(c api.Mat, m, v []api.Int) []api.Int {
	list, _ := mat.VecMul(v, c)
	for i, n := range m {
		if zint.Sign(n) != 0 {
			list[i], _ = zint.Mod(list[i], n)
		}
	}
	return list
}

// holdGroup holds all calls on a matrix whose group has this rank and these invariant factors; it answers what Coords does.
func holdGroup(t *testing.T, a api.Mat, rank int, factors []api.Int) (c api.Mat, m []api.Int) {
	t.Helper()
	gotRank, got, e := group.Of(a)
	check.Same(t, of("Of", a), e, api.OK)
	check.Same(t, of("rank of Of", a), gotRank, rank)
	check.Ints(t, of("factors of Of", a), got, factors)
	size := productOf(factors)
	if rank > 0 {
		size = num(0)
	}
	holdSize(t, a, size)
	// The plainest matrix that has such a group.
	plain := diagOf(len(factors), len(factors)+rank, factors)
	holdSame(t, a, plain, true)
	holdEach(t, a, size)
	return holdCoords(t, a, append(slices.Clone(factors), make([]api.Int, rank)...))
}

func holdSize(t *testing.T, a api.Mat, want api.Int) {
	t.Helper()
	size, e := group.Size(a)
	check.Same(t, of("Size", a), e, api.OK)
	check.Int(t, of("Size", a), size, want)
}

// holdSame asks for it in both orders.
func holdSame(t *testing.T, a, b api.Mat, want bool) {
	t.Helper()
	for _, two := range [][2]api.Mat{{a, b}, {b, a}} {
		is, e := group.Same(two[0], two[1])
		check.Same(t, of("Same", two[0], two[1]), e, api.OK)
		check.Same(t, of("Same", two[0], two[1]), is, want)
	}
}

// holdCoords asks for this m, and for a c that tells a's group. Each row of a's lattice must be told as the zero row is, and every list must tell some row; then the group of a goes onto the group of m, which is alike to it, and a map of such a group onto itself takes no two elements to one.
func holdCoords(t *testing.T, a api.Mat, want []api.Int) (c api.Mat, m []api.Int) {
	t.Helper()
	call := of("Coords", a)
	c, m, e := group.Coords(a)
	check.Same(t, call, e, api.OK)
	check.Ints(t, call+", m", m, want)
	check.Same(t, call+", rows and columns of c", [2]int{c.Rows, c.Cols}, [2]int{a.Cols, len(want)})
	least, e := mat.Least(c)
	check.Same(t, call+", c: sound", e, api.OK)
	check.Mat(t, call+", c: least form", c, least)
	if t.Failed() {
		// What has not its shape can't be looked at.
		t.FailNow()
	}
	for _, line := range mat.Lines(a) {
		check.Same(t, call+": is a row of the lattice told as the zero row is", isZero(told(c, m, line)), true)
	}
	all, _ := lattice.Sum(c, diagOf(len(m), len(m), m))
	check.Mat(t, call+": what is told, with what counts as 0", all, unitOf(len(m)))
	return c, m
}

// given are the rows of an iterator, at most so many.
func given(rows iter.Seq[[]api.Int], most int) [][]api.Int {
	var all [][]api.Int
	for v := range rows {
		all = append(all, v)
		if len(all) == most {
			break
		}
	}
	return all
}

// holdEach asks Each for reduced rows in dictionary order, as many as there are classes: so there is one for each.
func holdEach(t *testing.T, a api.Mat, size api.Int) {
	t.Helper()
	call := of("Each", a)
	rows, e := group.Each(a)
	count, f := zint.Small(size)
	if f != api.OK || count == 0 || count > api.MaxList {
		holdNone(t, call, rows, e, api.ErrLarge)
		return
	}
	check.Same(t, call, e, api.OK)
	all := given(rows, api.MaxList+1)
	check.Same(t, call+": how many rows", int64(len(all)), count)
	for i, v := range all {
		check.Same(t, call+": how many numbers", len(v), a.Cols)
		holdReduced(t, call, a, v)
		if i > 0 {
			check.Same(t, fmt.Sprint(call, ": order of row ", i), slices.CompareFunc(all[i-1], v, zint.Cmp), -1)
		}
	}
}

// holdNone asks for an error, and for an iterator that gives nothing.
func holdNone(t *testing.T, call string, rows iter.Seq[[]api.Int], e, want api.Errno) {
	t.Helper()
	check.Same(t, call, e, want)
	if rows == nil {
		t.Fatalf("%s: the iterator is nil", call)
	}
	check.Same(t, call+": how many rows", len(given(rows, 3)), 0)
}

// holdReduced asks for a row in least form that is reduced by a's Hermite basis.
func holdReduced(t *testing.T, call string, a api.Mat, v []api.Int) {
	t.Helper()
	least, _ := mat.Make(1, len(v), v)
	check.Ints(t, call+": least form", v, least.At)
	basis, _ := hnf.Basis(a)
	pivots, _ := hnf.Pivots(basis)
	for i, col := range pivots {
		reduced := zint.Sign(v[col]) >= 0 && zint.Cmp(v[col], basis.At[i*basis.Cols+col]) < 0
		check.Same(t, fmt.Sprint(call, ": is it reduced at ", col), reduced, true)
	}
}

// holdRep asks for the reduced row of v's class.
func holdRep(t *testing.T, a api.Mat, v []api.Int) []api.Int {
	t.Helper()
	call := at("Rep", a, v)
	got, e := group.Rep(a, v)
	check.Same(t, call, e, api.OK)
	check.Same(t, call+": how many numbers", len(got), a.Cols)
	if t.Failed() {
		// A row of another length can't be looked at.
		t.FailNow()
	}
	holdReduced(t, call, a, got)
	check.Same(t, call+": is it of the class", lies(a, sumOf(v, multiple(num(-1), got))), true)
	return got
}

// holdOrder asks for an order, and for what it says of the multiples of v as far as it can be asked.
func holdOrder(t *testing.T, a api.Mat, v []api.Int, want api.Int) {
	t.Helper()
	call := at("Order", a, v)
	got, e := group.Order(a, v)
	check.Same(t, call, e, api.OK)
	check.Int(t, call, got, want)
	check.Same(t, call+": does so often v lie in the lattice", lies(a, multiple(got, v)), true)
	check.Same(t, call+": is it 1 just if v lies in the lattice", isEqual(got, num(1)), lies(a, v))
}

// orderOf is the order of what is told by such a list modulo m: the least number of times that makes 0 of each of its numbers.
func orderOf(m, list []api.Int) api.Int {
	order := num(1)
	for i, n := range list {
		switch {
		case zint.Sign(n) == 0:
		case zint.Sign(m[i]) == 0:
			return num(0)
		default:
			times, _ := zint.Exact(m[i], bezout.Gcd(m[i], n))
			order = bezout.Lcm(order, times)
		}
	}
	return order
}

// holdRefusal asks for an error with nothing beside it.
func holdRefusal(t *testing.T, call string, got []api.Int, e, want api.Errno) {
	t.Helper()
	check.Same(t, call, e, want)
	check.Ints(t, call+", beside the error", got, nil)
}
