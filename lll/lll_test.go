package lll_test

import (
	"fmt"
	"slices"
	"testing"

	"trellis/api"
	"trellis/bareiss"
	"trellis/check"
	"trellis/hnf"
	"trellis/lattice"
	"trellis/lll"
	"trellis/made"
	"trellis/mat"
	"trellis/zint"
)

// The integers, rows and matrices of the tests.
var (
	num, nums   = check.Num, check.Nums
	plus, minus = check.Plus, check.Minus
	row, mx     = check.Row, check.Matrix
	first       = made.First
	product     = made.Product
)

// called is how a matrix is named in a test's report.
func called(a api.Mat) string {
	if len(a.At) > 30 {
		return fmt.Sprintf(" of %d by %d", a.Rows, a.Cols)
	}
	return fmt.Sprintf("(%d by %d %v)", a.Rows, a.Cols, a.At)
}

// of names a call in a test's report.
func of(name string, matrices ...api.Mat) string {
	for _, a := range matrices {
		name += called(a)
	}
	return name
}

// at names a call at a row in a test's report.
func at(name string, a api.Mat, v []api.Int) string {
	return of(name, a, api.Mat{Rows: 1, Cols: len(v), At: v})
}

// unitOf is the unit matrix of n rows.
func unitOf(n int) api.Mat {
	unit, _ := mat.Unit(n)
	return unit
}

// diagOf is the matrix of this shape with the list on its diagonal.
func diagOf(rows, cols int, list []api.Int) api.Mat {
	a, _ := mat.Diag(rows, cols, list)
	return a
}

// lineOf is row i of a.
func lineOf(a api.Mat, i int) []api.Int {
	return a.At[i*a.Cols : (i+1)*a.Cols]
}

// firstRows are the first n rows of a.
func firstRows(a api.Mat, n int) api.Mat {
	return api.Mat{Rows: n, Cols: a.Cols, At: a.At[:n*a.Cols]}
}

// disguised is a row in other forms.
func disguised(v []api.Int) []api.Int {
	return made.Disguised(api.Mat{Rows: 1, Cols: len(v), At: v}).At
}

// leastOf is a row in least form.
func leastOf(v []api.Int) []api.Int {
	least, _ := mat.Make(1, len(v), v)
	return least.At
}

// sumOf is v and k times w.
func sumOf(v []api.Int, k api.Int, w []api.Int) []api.Int {
	sum := make([]api.Int, len(v))
	for i, n := range v {
		sum[i] = zint.MulAdd(k, w[i], n)
	}
	return sum
}

// dot is the product of two rows.
func dot(v, w []api.Int) api.Int {
	sum, _ := zint.Dot(v, w)
	return sum
}

// squareOf is the square of the length of a row.
func squareOf(v []api.Int) api.Int { return dot(v, v) }

// powerOf2 is 2 to the power n, of however many digits.
func powerOf2(n int) api.Int {
	power := num(1)
	for range n {
		power = zint.Add(power, power)
	}
	return power
}

// isZero says if all numbers are 0.
func isZero(list []api.Int) bool {
	return !slices.ContainsFunc(list, func(n api.Int) bool { return zint.Sign(n) != 0 })
}

// rankOf is the rank that layer 13 tells.
func rankOf(a api.Mat) int {
	rank, _ := bareiss.Rank(a)
	return rank
}

// lies says if a row lies in a's lattice, by layer 21.
func lies(a api.Mat, v []api.Int) bool {
	has, _ := lattice.Has(a, v)
	return has
}

// holdGram asks for the products of all rows, entry by entry.
func holdGram(t *testing.T, a api.Mat) api.Mat {
	t.Helper()
	want := api.Mat{Rows: a.Rows, Cols: a.Rows}
	for i := range a.Rows {
		for j := range a.Rows {
			want.At = append(want.At, dot(lineOf(a, i), lineOf(a, j)))
		}
	}
	got, e := lll.Gram(a)
	check.Same(t, of("Gram", a), e, api.OK)
	check.Mat(t, of("Gram", a), got, want)
	return got
}

// holdDets asks for the determinants of the first rows' Gram matrices, which layer 13 tells.
func holdDets(t *testing.T, a api.Mat) []api.Int {
	t.Helper()
	gram := holdGram(t, a)
	want := nums(1)
	for k := 1; k <= a.Rows; k++ {
		square, _ := mat.Pick(gram, first(k), first(k))
		det, _ := bareiss.Det(square)
		want = append(want, det)
	}
	got, e := lll.Dets(a)
	check.Same(t, of("Dets", a), e, api.OK)
	check.Ints(t, of("Dets", a), got, want)
	for k, n := range got {
		above := rankOf(firstRows(a, k)) == k
		check.Same(t, fmt.Sprint(of("Dets", a), ": is number ", k, " above 0"), zint.Sign(n) > 0, above)
		check.Same(t, fmt.Sprint(of("Dets", a), ": is number ", k, " below 0"), zint.Sign(n) < 0, false)
	}
	return got
}

func holdIsReduced(t *testing.T, b api.Mat, want bool) {
	t.Helper()
	is, e := lll.IsReduced(b)
	check.Same(t, of("IsReduced", b), e, api.OK)
	check.Same(t, of("IsReduced", b), is, want)
}

// few is the number of rows up to which the words of the chapter are gone by, fraction by fraction.
const few = 8

// holdReduce asks for a basis of a's lattice that is reduced, and for how it is made.
func holdReduce(t *testing.T, a api.Mat) (b, by api.Mat) {
	t.Helper()
	call := of("Reduce", a)
	b, by, e := lll.Reduce(a)
	check.Same(t, call, e, api.OK)
	rank := rankOf(a)
	check.Same(t, call+", shape of b", [2]int{b.Rows, b.Cols}, [2]int{rank, a.Cols})
	check.Same(t, call+", shape of t", [2]int{by.Rows, by.Cols}, [2]int{rank, a.Rows})
	for _, m := range []api.Mat{b, by} {
		least, e := mat.Least(m)
		check.Same(t, call+": sound", e, api.OK)
		check.Mat(t, call+": least form", m, least)
	}
	if t.Failed() {
		// What has not its shape can't be looked at.
		t.FailNow()
	}
	check.Mat(t, call+", t times a", product(by, a), b)
	inB, _ := lattice.Inside(a, b)
	check.Same(t, call+": does a's lattice lie in b's", inB, true)
	one, _ := hnf.Basis(a)
	other, _ := hnf.Basis(b)
	check.Mat(t, call+", Hermite basis", other, one)
	holdIsReduced(t, b, true)
	if rank <= few {
		check.Same(t, call+": is b reduced, by the chapter's words", isReducedByWords(b), true)
	}
	return b, by
}

// holdNear asks for the row that the chapter's words lead to.
func holdNear(t *testing.T, b api.Mat, v []api.Int) []api.Int {
	t.Helper()
	got, e := lll.Near(b, v)
	check.Same(t, at("Near", b, v), e, api.OK)
	check.Ints(t, at("Near", b, v), got, nearByWords(b, v))
	return got
}

// holdShortest asks for a row of a's lattice that is not zero, with its square.
func holdShortest(t *testing.T, a api.Mat) (line []api.Int, square api.Int) {
	t.Helper()
	call := of("Shortest", a)
	line, square, e := lll.Shortest(a)
	check.Same(t, call, e, api.OK)
	check.Same(t, call+": how many numbers", len(line), a.Cols)
	if t.Failed() {
		// A row of another length can't be looked at.
		t.FailNow()
	}
	check.Ints(t, call+": least form", line, leastOf(line))
	check.Same(t, call+": is the row zero", isZero(line), false)
	check.Same(t, call+": does the row lie in the lattice", lies(a, line), true)
	check.Int(t, call+": square", square, squareOf(line))
	for i := range a.Rows {
		if other := lineOf(a, i); !isZero(other) {
			check.Same(t, call+": is a row of the matrix shorter", zint.Cmp(squareOf(other), square) < 0, false)
		}
	}
	return line, square
}

// holdLeast asks for this square too.
func holdLeast(t *testing.T, a api.Mat, want api.Int) {
	t.Helper()
	_, square := holdShortest(t, a)
	check.Int(t, of("square of Shortest", a), square, want)
}

// holdNoShortest asks for an error of Shortest, with nothing beside it.
func holdNoShortest(t *testing.T, a api.Mat, want api.Errno) {
	t.Helper()
	line, square, e := lll.Shortest(a)
	holdRefusal(t, of("Shortest", a), line, e, want)
	check.Int(t, of("square of Shortest", a), square, api.Int{})
}

// holdRefusal asks for an error with nothing beside it.
func holdRefusal(t *testing.T, call string, got []api.Int, e, want api.Errno) {
	t.Helper()
	check.Same(t, call, e, want)
	check.Ints(t, call+", beside the error", got, nil)
}
