package lattice_test

import (
	"fmt"
	"slices"
	"testing"

	"trellis/api"
	"trellis/bareiss"
	"trellis/check"
	"trellis/frac"
	"trellis/hnf"
	"trellis/lattice"
	"trellis/made"
	"trellis/mat"
	"trellis/snf"
	"trellis/zint"
)

// The integers, rows and matrices of the tests.
var (
	num, nums   = check.Num, check.Nums
	plus, minus = check.Plus, check.Minus
	row, mx     = check.Row, check.Matrix
	first       = made.First
	product     = made.Product
)

// called is how a matrix is named in a test's report.
func called(a api.Mat) string {
	if len(a.At) > 30 {
		return fmt.Sprintf(" of %d by %d", a.Rows, a.Cols)
	}
	return fmt.Sprintf("(%d by %d %v)", a.Rows, a.Cols, a.At)
}

// of names a call in a test's report.
func of(name string, matrices ...api.Mat) string {
	for _, a := range matrices {
		name += called(a)
	}
	return name
}

// at names a call at a row in a test's report.
func at(name string, a api.Mat, b []api.Int) string {
	return of(name, a, api.Mat{Rows: 1, Cols: len(b), At: b})
}

// unitOf is the unit matrix of n rows.
func unitOf(n int) api.Mat {
	unit, _ := mat.Unit(n)
	return unit
}

// rowsFrom are the rows of a sound matrix from one on, below another.
func rowsFrom(a api.Mat, from, to int) api.Mat {
	return api.Mat{Rows: to - from, Cols: a.Cols, At: a.At[from*a.Cols : to*a.Cols]}
}

// disguised is a row in other forms.
func disguised(b []api.Int) []api.Int {
	return made.Disguised(api.Mat{Rows: 1, Cols: len(b), At: b}).At
}

// rankOf is the rank by layer 13.
func rankOf(a api.Mat) int {
	rank, _ := bareiss.Rank(a)
	return rank
}

// isZero says if all numbers are 0.
func isZero(list []api.Int) bool {
	return !slices.ContainsFunc(list, func(n api.Int) bool { return zint.Sign(n) != 0 })
}

// lies says if a row lies in the lattice of a Hermite basis, by layer 18.
func lies(basis api.Mat, b []api.Int) bool {
	rest, _, _ := hnf.Reduce(basis, b)
	return isZero(rest)
}

// lieAll says so of all rows of a.
func lieAll(basis, a api.Mat) bool {
	for _, line := range mat.Lines(a) {
		if !lies(basis, line) {
			return false
		}
	}
	return true
}

// missesNone says if a basis has all whole rows of its span in its lattice: then its minors of all rows have no common divisor.
func missesNone(basis api.Mat) bool {
	divisors, _ := snf.Divisors(basis)
	return len(divisors) == basis.Rows+1 && zint.Cmp(divisors[basis.Rows], num(1)) == 0
}

// holdBasis asks for a Hermite basis, in least form, of rows of so many numbers.
func holdBasis(t *testing.T, call string, basis api.Mat, e api.Errno, cols int) {
	t.Helper()
	check.Same(t, call, e, api.OK)
	check.Same(t, call+": columns", basis.Cols, cols)
	least, e := mat.Least(basis)
	check.Same(t, call+": sound", e, api.OK)
	check.Mat(t, call+": least form", basis, least)
	is, _ := hnf.IsForm(basis)
	check.Same(t, call+": is it in Hermite form", is, true)
	check.Same(t, call+": how many rows are not zero", rankOf(basis), basis.Rows)
	if t.Failed() {
		// What is no basis can't be looked at.
		t.FailNow()
	}
}

// holdKernel asks for all that the document says of Kernel: just one Hermite basis has as many rows as are to be, all in the kernel, and misses none.
func holdKernel(t *testing.T, a api.Mat) api.Mat {
	t.Helper()
	call := of("Kernel", a)
	got, e := lattice.Kernel(a)
	holdBasis(t, call, got, e, a.Rows)
	check.Same(t, call+": rows", got.Rows, a.Rows-rankOf(a))
	zero, _ := mat.Zero(got.Rows, a.Cols)
	check.Mat(t, call+", times the matrix", product(got, a), zero)
	check.Same(t, call+": does it miss none", missesNone(got), true)
	return got
}

// holdImage asks for the Hermite basis of a's lattice: it has all rows of a, and the divisors of its minors are a's, so that no lattice lies between.
func holdImage(t *testing.T, a api.Mat) api.Mat {
	t.Helper()
	call := of("Image", a)
	got, e := lattice.Image(a)
	holdBasis(t, call, got, e, a.Cols)
	check.Same(t, call+": rows", got.Rows, rankOf(a))
	check.Same(t, call+": do all rows lie in it", lieAll(got, a), true)
	want, _ := snf.Divisors(a)
	divisors, _ := snf.Divisors(got)
	check.Ints(t, call+": divisors of its minors", divisors, want[:got.Rows+1])
	return got
}

// holdComplement asks for all that the document says of Complement.
func holdComplement(t *testing.T, a api.Mat) api.Mat {
	t.Helper()
	call := of("Complement", a)
	got, e := lattice.Complement(a)
	holdBasis(t, call, got, e, a.Cols)
	check.Same(t, call+": rows", got.Rows, a.Cols-rankOf(a))
	zero, _ := mat.Zero(a.Rows, got.Rows)
	check.Mat(t, call+", the matrix times it", product(a, made.Turned(got)), zero)
	check.Same(t, call+": does it miss none", missesNone(got), true)
	return got
}

// holdSaturate asks for all that the document says of Saturate, P21.6's two complements among it.
func holdSaturate(t *testing.T, a api.Mat) api.Mat {
	t.Helper()
	call := of("Saturate", a)
	got, e := lattice.Saturate(a)
	holdBasis(t, call, got, e, a.Cols)
	check.Same(t, call+": rows", got.Rows, rankOf(a))
	check.Same(t, call+": do all rows lie in it", lieAll(got, a), true)
	check.Same(t, call+": does it miss none", missesNone(got), true)
	check.Mat(t, call+" by complements", got, holdComplement(t, holdComplement(t, a)))
	return got
}

// holdOne holds the calls on one matrix.
func holdOne(t *testing.T, a api.Mat) {
	t.Helper()
	holdKernel(t, a)
	holdImage(t, a)
	holdSaturate(t, a)
}

// holdSolved asks for the reduced solution, and that it is not refuted.
func holdSolved(t *testing.T, a api.Mat, b []api.Int) []api.Int {
	t.Helper()
	call := at("Solve", a, b)
	x, e := lattice.Solve(a, b)
	check.Same(t, call, e, api.OK)
	check.Same(t, call+": how many numbers", len(x), a.Rows)
	if t.Failed() {
		// Lists of other lengths can't be looked at.
		t.FailNow()
	}
	least, _ := mat.Make(1, len(b), b)
	sum, _ := mat.VecMul(x, a)
	check.Ints(t, call+", times the matrix", sum, least.At)
	kernel, _ := lattice.Kernel(a)
	rest, _, _ := hnf.Reduce(kernel, x)
	// So it is in least form too.
	check.Ints(t, call+", reduced by the kernel", x, rest)
	holdHas(t, a, b, true)
	y, e := lattice.Refute(a, b)
	holdRefusal(t, at("Refute", a, b), toldFracs(y), e, api.ErrNone)
	return x
}

// holdRefuted asks for a column that refutes, and that there is no solution.
func holdRefuted(t *testing.T, a api.Mat, b []api.Int) {
	t.Helper()
	call := at("Refute", a, b)
	y, e := lattice.Refute(a, b)
	check.Same(t, call, e, api.OK)
	check.Same(t, call+": how many fractions", len(y), a.Cols)
	if t.Failed() {
		t.FailNow()
	}
	for _, f := range y {
		lowest, e := frac.Of(f.Num, f.Den)
		check.Same(t, call+": are they fractions", e, api.OK)
		check.Frac(t, call+": lowest terms", f, lowest)
	}
	for i, line := range mat.Lines(a) {
		check.Int(t, fmt.Sprint(call, ": denominator of row ", i), dot(line, y).Den, num(1))
	}
	check.Same(t, call+": is it whole at the row", zint.Cmp(dot(b, y).Den, num(1)) == 0, false)
	holdHas(t, a, b, false)
	x, e := lattice.Solve(a, b)
	holdRefusal(t, at("Solve", a, b), x, e, api.ErrNone)
}

// dot is the sum of a row's numbers times a column's fractions.
func dot(list []api.Int, y []api.Frac) api.Frac {
	sum := check.Over(0, 1)
	for i, n := range list {
		part, _ := frac.Mul(api.Frac{Num: n, Den: num(1)}, y[i])
		sum, _ = frac.Add(sum, part)
	}
	return sum
}

func holdHas(t *testing.T, a api.Mat, b []api.Int, want bool) {
	t.Helper()
	has, e := lattice.Has(a, b)
	check.Same(t, at("Has", a, b), e, api.OK)
	check.Same(t, at("Has", a, b), has, want)
}

// holdRow holds the calls on a matrix and a row, of which it is known if it lies in the lattice.
func holdRow(t *testing.T, a api.Mat, b []api.Int, lies bool) {
	t.Helper()
	if lies {
		holdSolved(t, a, b)
	} else {
		holdRefuted(t, a, b)
	}
}

func holdInside(t *testing.T, a, b api.Mat, want bool) {
	t.Helper()
	is, e := lattice.Inside(a, b)
	check.Same(t, of("Inside", a, b), e, api.OK)
	check.Same(t, of("Inside", a, b), is, want)
}

// holdSame asks for it in both orders.
func holdSame(t *testing.T, a, b api.Mat, want bool) {
	t.Helper()
	for _, two := range [][2]api.Mat{{a, b}, {b, a}} {
		is, e := lattice.Same(two[0], two[1])
		check.Same(t, of("Same", two[0], two[1]), e, api.OK)
		check.Same(t, of("Same", two[0], two[1]), is, want)
	}
}

// holdIndex asks for an index: so a lies in b.
func holdIndex(t *testing.T, a, b api.Mat, want api.Int) {
	t.Helper()
	holdInside(t, a, b, true)
	index, e := lattice.Index(a, b)
	check.Same(t, of("Index", a, b), e, api.OK)
	check.Int(t, of("Index", a, b), index, want)
	holdSame(t, a, b, zint.Cmp(want, num(1)) == 0)
}

// holdOutside asks Inside, Same and Index of a that does not lie in b.
func holdOutside(t *testing.T, a, b api.Mat) {
	t.Helper()
	holdInside(t, a, b, false)
	index, e := lattice.Index(a, b)
	holdRefusal(t, of("Index", a, b), told(api.Mat{At: []api.Int{index}}), e, api.ErrNone)
	holdSame(t, a, b, false)
}

// holdSum asks for a sum, in both orders.
func holdSum(t *testing.T, a, b, want api.Mat) {
	t.Helper()
	for _, two := range [][2]api.Mat{{a, b}, {b, a}} {
		got, e := lattice.Sum(two[0], two[1])
		check.Same(t, of("Sum", two[0], two[1]), e, api.OK)
		check.Mat(t, of("Sum", two[0], two[1]), got, want)
	}
}

// holdMeet asks for a meet, in both orders.
func holdMeet(t *testing.T, a, b, want api.Mat) {
	t.Helper()
	for _, two := range [][2]api.Mat{{a, b}, {b, a}} {
		got, e := lattice.Meet(two[0], two[1])
		check.Same(t, of("Meet", two[0], two[1]), e, api.OK)
		check.Mat(t, of("Meet", two[0], two[1]), got, want)
	}
}

// told are matrices as one list: their shapes, and their entries. Of what is a zero value nothing is told.
func told(matrices ...api.Mat) []api.Int {
	var all []api.Int
	for _, a := range matrices {
		if a.Rows != 0 || a.Cols != 0 {
			all = append(all, nums(a.Rows, a.Cols)...)
		}
		for _, n := range a.At {
			if a.Rows != 0 || a.Cols != 0 || n.Neg || len(n.Mag) > 0 {
				all = append(all, n)
			}
		}
	}
	return all
}

// toldFracs are fractions as one list.
func toldFracs(list []api.Frac) []api.Int {
	var all []api.Int
	for _, f := range list {
		all = append(all, f.Num, f.Den)
	}
	return all
}

// toldFlag is 1 for true, and nothing for false.
func toldFlag(is bool) []api.Int {
	if is {
		return nums(1)
	}
	return nil
}

// holdRefusal asks for an error with nothing beside it.
func holdRefusal(t *testing.T, call string, got []api.Int, e, want api.Errno) {
	t.Helper()
	check.Same(t, call, e, want)
	check.Ints(t, call+", beside the error", got, nil)
}
