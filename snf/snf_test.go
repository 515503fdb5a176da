package snf_test

import (
	"fmt"
	"slices"
	"testing"

	"trellis/api"
	"trellis/check"
	"trellis/made"
	"trellis/mat"
	"trellis/snf"
	"trellis/zint"
)

// The integers and matrices of the tests.
var (
	num, nums   = check.Num, check.Nums
	plus, minus = check.Plus, check.Minus
	row, mx     = check.Row, check.Matrix
	first       = made.First
	product     = made.Product
)

// called is how a matrix is named in a test's report.
func called(a api.Mat) string {
	if len(a.At) > 30 {
		return fmt.Sprintf(" of %d by %d", a.Rows, a.Cols)
	}
	return fmt.Sprintf("(%d by %d %v)", a.Rows, a.Cols, a.At)
}

// of names a call in a test's report.
func of(name string, a api.Mat) string {
	return name + called(a)
}

// unitOf is the unit matrix of n rows.
func unitOf(n int) api.Mat {
	unit, _ := mat.Unit(n)
	return unit
}

// diagOf is the matrix of this shape with the list on its diagonal.
func diagOf(rows, cols int, list []api.Int) api.Mat {
	a, _ := mat.Diag(rows, cols, list)
	return a
}

// diagonal is what stands on the diagonal of a sound matrix.
func diagonal(a api.Mat) []api.Int {
	var list []api.Int
	for i := range min(a.Rows, a.Cols) {
		list = append(list, a.At[i*a.Cols+i])
	}
	return list
}

// isSmith says if a sound matrix is in Smith form, by the words of the document.
func isSmith(d api.Mat) bool {
	for i, n := range d.At {
		if i/d.Cols != i%d.Cols && zint.Sign(n) != 0 {
			return false
		}
	}
	list := diagonal(d)
	for i, n := range list {
		if zint.Sign(n) < 0 {
			return false
		}
		if i == 0 {
			continue
		}
		if _, rest, e := zint.Trunc(n, list[i-1]); e == api.ErrZero && zint.Sign(n) != 0 || zint.Sign(rest) != 0 {
			return false
		}
	}
	return true
}

// products are, for each k from 0 on, the product of the first k numbers.
func products(list []api.Int) []api.Int {
	all := nums(1)
	for i, n := range list {
		all = append(all, zint.Mul(all[i], n))
	}
	return all
}

// holdLeast asks for a sound matrix of this shape whose entries are in least form.
func holdLeast(t *testing.T, call string, a api.Mat, rows, cols int) {
	t.Helper()
	check.Same(t, call+": rows and columns", [2]int{a.Rows, a.Cols}, [2]int{rows, cols})
	least, e := mat.Least(a)
	check.Same(t, call+": sound", e, api.OK)
	check.Mat(t, call+": least form", a, least)
}

// holdForm asks for this form, and for what hangs on it.
func holdForm(t *testing.T, a, want api.Mat) {
	t.Helper()
	got, e := snf.Form(a)
	check.Same(t, of("Form", a), e, api.OK)
	check.Mat(t, of("Form", a), got, want)
	factors, e := snf.Factors(a)
	check.Same(t, of("Factors", a), e, api.OK)
	check.Ints(t, of("Factors", a), factors, diagonal(want))
	holdDivisors(t, a, products(diagonal(want)))
	holdIsForm(t, want, true)
}

func holdDivisors(t *testing.T, a api.Mat, want []api.Int) {
	t.Helper()
	got, e := snf.Divisors(a)
	check.Same(t, of("Divisors", a), e, api.OK)
	check.Ints(t, of("Divisors", a), got, want)
}

func holdIsForm(t *testing.T, d api.Mat, want bool) {
	t.Helper()
	is, e := snf.IsForm(d)
	check.Same(t, of("IsForm", d), e, api.OK)
	check.Same(t, of("IsForm", d), is, want)
}

// holdSame asks for it in both orders.
func holdSame(t *testing.T, a, b api.Mat, want bool) {
	t.Helper()
	for _, two := range [][2]api.Mat{{a, b}, {b, a}} {
		is, e := snf.Same(two[0], two[1])
		check.Same(t, of("Same", two[0])+called(two[1]), e, api.OK)
		check.Same(t, of("Same", two[0])+called(two[1]), is, want)
	}
}

func holdChain(t *testing.T, list, want []api.Int) {
	t.Helper()
	check.Ints(t, fmt.Sprintf("Chain of %d numbers %.200s", len(list), fmt.Sprint(list)), snf.Chain(list), want)
}

// holdFull asks for all that the document says of Full.
func holdFull(t *testing.T, a api.Mat) api.Smith {
	t.Helper()
	got, e := snf.Full(a)
	call := of("Full", a)
	check.Same(t, call, e, api.OK)
	holdLeast(t, call+", D", got.D, a.Rows, a.Cols)
	holdLeast(t, call+", U", got.U, a.Rows, a.Rows)
	holdLeast(t, call+", Ui", got.Ui, a.Rows, a.Rows)
	holdLeast(t, call+", V", got.V, a.Cols, a.Cols)
	holdLeast(t, call+", Vi", got.Vi, a.Cols, a.Cols)
	if t.Failed() {
		// What has not its shape can't be looked at.
		t.FailNow()
	}
	check.Same(t, call+": is D in Smith form", isSmith(got.D), true)
	check.Mat(t, call+": U times a times V", product(got.U, a, got.V), got.D)
	check.Mat(t, call+": U times Ui", product(got.U, got.Ui), unitOf(a.Rows))
	check.Mat(t, call+": Ui times U", product(got.Ui, got.U), unitOf(a.Rows))
	check.Mat(t, call+": V times Vi", product(got.V, got.Vi), unitOf(a.Cols))
	check.Mat(t, call+": Vi times V", product(got.Vi, got.V), unitOf(a.Cols))
	return got
}

// holdAll holds all calls on one matrix: as there is just one D in Smith form, what Full answers tells what the others must.
func holdAll(t *testing.T, a api.Mat) api.Mat {
	t.Helper()
	d := holdFull(t, a).D
	holdForm(t, a, d)
	holdSame(t, a, d, true)
	// What is in the form is its own.
	same, _ := mat.Equal(a, d)
	check.Same(t, of("in Smith form by the words", a), isSmith(a), same)
	holdIsForm(t, a, same)
	return d
}

// taker is a call on a matrix, what it answers told as one list of integers; nothing is told of zero values.
type taker func(a api.Mat) ([]api.Int, api.Errno)

// told are matrices as one list: their shapes, and their entries. Of one that has neither shape nor entries nothing is told.
func told(matrices ...api.Mat) []api.Int {
	var all []api.Int
	for _, a := range matrices {
		if a.Rows != 0 || a.Cols != 0 || len(a.At) != 0 {
			all = slices.Concat(all, nums(a.Rows, a.Cols), a.At)
		}
	}
	return all
}

// toldFlag is 1 for true, and nothing for false.
func toldFlag(is bool) []api.Int {
	if is {
		return nums(1)
	}
	return nil
}

// sameAs is Same of the matrix and another one, this one first or last.
func sameAs(other api.Mat, last bool) taker {
	return func(a api.Mat) ([]api.Int, api.Errno) {
		one, two := other, a
		if !last {
			one, two = a, other
		}
		is, e := snf.Same(one, two)
		return toldFlag(is), e
	}
}

// takers are all calls that take a matrix.
func takers() map[string]taker {
	all := map[string]taker{
		"Form": func(a api.Mat) ([]api.Int, api.Errno) {
			form, e := snf.Form(a)
			return told(form), e
		},
		"Full": func(a api.Mat) ([]api.Int, api.Errno) {
			full, e := snf.Full(a)
			return told(full.D, full.U, full.V, full.Ui, full.Vi), e
		},
		"Factors":  snf.Factors,
		"Divisors": snf.Divisors,
		"IsForm": func(a api.Mat) ([]api.Int, api.Errno) {
			is, e := snf.IsForm(a)
			return toldFlag(is), e
		},
		"Same as itself": func(a api.Mat) ([]api.Int, api.Errno) {
			is, e := snf.Same(a, a)
			return toldFlag(is), e
		},
	}
	for _, text := range []string{"0x0", "0x2", "2x0", "1", "1 2; 3 4", "0 0 0; 0 0 0"} {
		all["Same as "+text] = sameAs(mx(text), false)
		all["Same, behind "+text] = sameAs(mx(text), true)
	}
	return all
}

// P20.1 to P20.5 and P20.7: a matrix that is not sound is refused, with nothing beside the error; of Same also if the other one is sound, of the same shape or not.
func TestUnsound(t *testing.T) {
	for _, a := range check.Unsound() {
		calls := takers()
		for i, other := range check.Unsound() {
			calls[fmt.Sprint("Same as unsound ", i)] = sameAs(other, false)
		}
		for name, call := range calls {
			got, e := call(a)
			check.Same(t, of(name, a), e, api.ErrMat)
			check.Ints(t, of(name, a)+", beside the error", got, nil)
		}
	}
}

// R1: all calls answer at every sound matrix.
func TestSound(t *testing.T) {
	for _, a := range made.Samples() {
		for name, call := range takers() {
			_, e := call(a)
			check.Same(t, of(name, a), e, api.OK)
		}
		holdAll(t, a)
	}
}

// forms are matrices in Smith form, the edges among them.
func forms() []string {
	return []string{
		"0x0", "0x1", "0x3", "0x64", "1x0", "3x0", "64x0", "0", "1", "7", "0 0", "0; 0", "1 0", "1; 0", "5 0 0", "5; 0; 0", "0 0 0; 0 0 0", "1 0; 0 1", "1 0; 0 6", "2 0; 0 2", "2 0; 0 0", "3 0; 0 12",
		"1 0 0; 0 6 0", "2 0; 0 4; 0 0", "1 0 0; 0 1 0; 0 0 1", "1 0 0; 0 2 0; 0 0 0", "2 0 0; 0 6 0; 0 0 30", "3 0 0; 0 0 0; 0 0 0", "1 0 0 0; 0 2 0 0; 0 0 4 0", "1 0 0; 0 2 0; 0 0 4; 0 0 0",
	}
}

// noForms are sound matrices that are not in Smith form, for each of the reasons.
func noForms() []string {
	return []string{
		// A number below 0 on the diagonal.
		"-1", "-7 0", "-1; 0", "1 0; 0 -1", "-1 0; 0 1", "1 0; 0 -6", "-2 0; 0 -4", "2 0 0; 0 -2 0; 0 0 4",
		// A number beside the diagonal, left of it, right of it, below it.
		"1 1", "0 1", "1; 1", "0; -1", "1 1; 0 1", "1 0; 1 1", "0 1; 1 0", "1 0 0; 0 6 1", "1 0; 0 6; 0 1", "2 0 0; 0 2 0; 2 0 2", "2 0 2; 0 2 0; 0 0 2", "0 0; 1 0", "1 0 0 -1; 0 1 0 0; 0 0 1 0", "1 0; 0 1; 0 0; 0 -1",
		// One that does not divide the next.
		"2 0; 0 3", "2 0; 0 1", "4 0; 0 2", "4 0; 0 6", "1 0 0; 0 4 0; 0 0 6", "2 0 0; 0 3 0; 0 0 6", "6 0; 0 3; 0 0",
		// A zero that is not last.
		"0 0; 0 1", "0 0 0; 0 5 0", "1 0 0; 0 0 0; 0 0 1", "0 0; 0 1; 0 0", "0 0 0; 0 2 0; 0 0 4",
	}
}

// P20.5: what is in the form, and what is not, for each reason there is.
func TestIsForm(t *testing.T) {
	for _, text := range forms() {
		d := mx(text)
		holdIsForm(t, d, true)
		holdIsForm(t, made.Disguised(d), true)
		holdForm(t, d, d)
		holdForm(t, made.Disguised(d), d)
		check.Mat(t, of("D of Full", d), holdFull(t, d).D, d)
	}
	for _, text := range noForms() {
		check.Same(t, text+": by the words", isSmith(mx(text)), false)
		holdIsForm(t, mx(text), false)
		holdIsForm(t, made.Disguised(mx(text)), false)
	}
}

// P20.5: forms of up to 64 rows and columns, spoilt at one place in each way.
func TestIsFormOfLarge(t *testing.T) {
	for _, shape := range [][2]int{{64, 64}, {64, 40}, {40, 64}} {
		rows, cols := shape[0], shape[1]
		var list []api.Int
		for i := range 38 {
			list = append(list, zint.Mul(plus(0, 6), num(1<<i)))
		}
		d := diagOf(rows, cols, list)
		holdIsForm(t, d, true)
		spoilt := 0
		for _, place := range [][2]int{{0, 0}, {0, 1}, {1, 0}, {0, cols - 1}, {rows - 1, 0}, {20, 20}, {20, 21}, {37, 37}, {38, 38}, {39, 39}, {rows - 1, cols - 1}} {
			for _, n := range []api.Int{num(-1), num(0), num(1), num(5), plus(0, 6), minus(0, 6), plus(0, 0, 0, 6), minus(0, 0, 0, 6)} {
				other, _ := mat.Least(d)
				other.At[place[0]*cols+place[1]] = n
				is := isSmith(other)
				holdIsForm(t, other, is)
				if !is {
					spoilt++
				}
			}
		}
		check.Same(t, "are there forms and none", spoilt > 50 && spoilt < 88, true)
	}
}

// P20.1 to P20.5 and P20.7 at matrices without rows, without columns, or with neither.
func TestEmpty(t *testing.T) {
	for _, n := range []int{0, 1, 2, 63, 64} {
		for _, a := range []api.Mat{{Cols: n}, {Rows: n}, {Rows: n, At: []api.Int{}}} {
			holdForm(t, a, a)
			holdDivisors(t, a, nums(1))
			full := holdFull(t, a)
			check.Mat(t, of("D of Full", a), full.D, a)
			holdSame(t, a, a, true)
			holdSame(t, a, api.Mat{Rows: a.Cols, Cols: a.Rows}, n == 0)
			holdSame(t, a, api.Mat{Rows: (a.Rows + 7) % 65}, false)
			holdSame(t, a, api.Mat{Cols: (a.Cols + 7) % 65}, false)
		}
	}
}
