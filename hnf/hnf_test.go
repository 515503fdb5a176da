package hnf_test

import (
	"fmt"
	"slices"
	"testing"

	"trellis/api"
	"trellis/check"
	"trellis/hnf"
	"trellis/made"
	"trellis/mat"
	"trellis/zint"
)

// The integers, rows and matrices of the tests.
var (
	num, nums   = check.Num, check.Nums
	plus, minus = check.Plus, check.Minus
	row, mx     = check.Row, check.Matrix
	first       = made.First
	product     = made.Product
)

// called is how a matrix is named in a test's report.
func called(a api.Mat) string {
	if len(a.At) > 30 {
		return fmt.Sprintf(" of %d by %d", a.Rows, a.Cols)
	}
	return fmt.Sprintf("(%d by %d %v)", a.Rows, a.Cols, a.At)
}

// of names a call in a test's report.
func of(name string, a api.Mat) string {
	return name + called(a)
}

// unitOf is the unit matrix of n rows.
func unitOf(n int) api.Mat {
	unit, _ := mat.Unit(n)
	return unit
}

// rowsFrom are the rows of a sound matrix from one on, below another.
func rowsFrom(a api.Mat, from, to int) api.Mat {
	return api.Mat{Rows: to - from, Cols: a.Cols, At: a.At[from*a.Cols : to*a.Cols]}
}

// leads are for each row the column of its first number that is not 0; a zero row has the one behind all columns.
func leads(a api.Mat) []int {
	all := make([]int, a.Rows)
	for i := range all {
		for all[i] < a.Cols && zint.Sign(a.At[i*a.Cols+all[i]]) == 0 {
			all[i]++
		}
	}
	return all
}

// rankOf is how many rows of a Hermite form are not zero.
func rankOf(h api.Mat) int {
	rank := 0
	for _, c := range leads(h) {
		if c < h.Cols {
			rank++
		}
	}
	return rank
}

// isReduced says if the rows of a are reduced by those rows of h that are not zero.
func isReduced(a, h api.Mat) bool {
	for i, c := range leads(h) {
		for k := 0; k < a.Rows && c < h.Cols; k++ {
			entry := a.At[k*a.Cols+c]
			if zint.Sign(entry) < 0 || zint.Cmp(entry, h.At[i*h.Cols+c]) >= 0 {
				return false
			}
		}
	}
	return true
}

// isHermite says if a sound matrix is in Hermite form, by the words of the document.
func isHermite(h api.Mat) bool {
	columns := leads(h)
	for i, c := range columns {
		if i > 0 && c <= columns[i-1] && c < h.Cols {
			return false
		}
		if c < h.Cols && zint.Sign(h.At[i*h.Cols+c]) < 0 {
			return false
		}
		if !isReduced(rowsFrom(h, 0, i), rowsFrom(h, i, i+1)) {
			return false
		}
	}
	return true
}

// holdLeast asks for a sound matrix of this shape whose entries are in least form.
func holdLeast(t *testing.T, call string, a api.Mat, rows, cols int) {
	t.Helper()
	check.Same(t, call+": rows and columns", [2]int{a.Rows, a.Cols}, [2]int{rows, cols})
	least, e := mat.Least(a)
	check.Same(t, call+": sound", e, api.OK)
	check.Mat(t, call+": least form", a, least)
}

// holdForm asks for this form, and for what hangs on it.
func holdForm(t *testing.T, a, want api.Mat) {
	t.Helper()
	got, e := hnf.Form(a)
	check.Same(t, of("Form", a), e, api.OK)
	check.Mat(t, of("Form", a), got, want)
	rank := rankOf(want)
	holdBasis(t, a, rowsFrom(want, 0, rank))
	holdIsForm(t, want, true)
	holdPivots(t, want, leads(want)[:rank])
}

func holdBasis(t *testing.T, a, want api.Mat) {
	t.Helper()
	got, e := hnf.Basis(a)
	check.Same(t, of("Basis", a), e, api.OK)
	check.Mat(t, of("Basis", a), got, want)
}

func holdIsForm(t *testing.T, h api.Mat, want bool) {
	t.Helper()
	is, e := hnf.IsForm(h)
	check.Same(t, of("IsForm", h), e, api.OK)
	check.Same(t, of("IsForm", h), is, want)
}

func holdPivots(t *testing.T, h api.Mat, want []int) {
	t.Helper()
	got, e := hnf.Pivots(h)
	check.Same(t, of("Pivots", h), e, api.OK)
	if !slices.Equal(got, want) {
		t.Errorf("%s: %v, want %v", of("Pivots", h), got, want)
	}
}

func holdReduce(t *testing.T, h api.Mat, v, rest, c []api.Int) {
	t.Helper()
	gotRest, gotC, e := hnf.Reduce(h, v)
	check.Same(t, of("Reduce", h)+fmt.Sprint(v), e, api.OK)
	check.Ints(t, of("rest of Reduce", h)+fmt.Sprint(v), gotRest, rest)
	check.Ints(t, of("multiples of Reduce", h)+fmt.Sprint(v), gotC, c)
}

func holdInsert(t *testing.T, h api.Mat, v []api.Int, want api.Mat) {
	t.Helper()
	got, e := hnf.Insert(h, v)
	check.Same(t, of("Insert", h)+fmt.Sprint(v), e, api.OK)
	check.Mat(t, of("Insert", h)+fmt.Sprint(v), got, want)
}

// holdFull asks for all that the document says of Full: it leaves no choice, as there is just one such H, and just one such basis of the kernel, by which just one of the rows that make each row of H is reduced.
func holdFull(t *testing.T, a api.Mat) api.Hermite {
	t.Helper()
	got, e := hnf.Full(a)
	call := of("Full", a)
	check.Same(t, call, e, api.OK)
	holdLeast(t, call+", H", got.H, a.Rows, a.Cols)
	holdLeast(t, call+", U", got.U, a.Rows, a.Rows)
	holdLeast(t, call+", W", got.W, a.Rows, a.Rows)
	if t.Failed() {
		// What has not its shape can't be looked at.
		t.FailNow()
	}
	check.Same(t, call+": is H in Hermite form", isHermite(got.H), true)
	check.Mat(t, call+": U times a", product(got.U, a), got.H)
	check.Mat(t, call+": U times W", product(got.U, got.W), unitOf(a.Rows))
	check.Mat(t, call+": W times U", product(got.W, got.U), unitOf(a.Rows))
	rank := rankOf(got.H)
	kernel := rowsFrom(got.U, rank, a.Rows)
	check.Same(t, call+": is the kernel's basis in Hermite form", isHermite(kernel), true)
	check.Same(t, call+": are the rows before it reduced by it", isReduced(rowsFrom(got.U, 0, rank), kernel), true)
	return got
}

// taker is a call on a matrix, what it answers told as one list of integers; nothing is told of zero values.
type taker func(a api.Mat) ([]api.Int, api.Errno)

// told are matrices as one list: their shapes, and their entries. Of one that has neither shape nor entries nothing is told.
func told(matrices ...api.Mat) []api.Int {
	var all []api.Int
	for _, a := range matrices {
		if a.Rows != 0 || a.Cols != 0 || len(a.At) != 0 {
			all = slices.Concat(all, nums(a.Rows, a.Cols), a.At)
		}
	}
	return all
}

// rowFor is a row of as many numbers as the matrix has columns, where it has a number of columns, and of some more.
func rowFor(a api.Mat, more int, list []api.Int) []api.Int {
	return check.Filled(1, min(max(a.Cols, 0), 65)+more, list).At
}

// reducer is Reduce at a row made of these numbers.
func reducer(more int, numbers ...api.Int) taker {
	return func(h api.Mat) ([]api.Int, api.Errno) {
		rest, c, e := hnf.Reduce(h, rowFor(h, more, numbers))
		return slices.Concat(rest, c), e
	}
}

// inserter is Insert at a row made of these numbers.
func inserter(more int, numbers ...api.Int) taker {
	return func(h api.Mat) ([]api.Int, api.Errno) {
		basis, e := hnf.Insert(h, rowFor(h, more, numbers))
		return told(basis), e
	}
}

// anyMatrix are the calls that take every sound matrix.
func anyMatrix() map[string]taker {
	return map[string]taker{
		"Form": func(a api.Mat) ([]api.Int, api.Errno) {
			form, e := hnf.Form(a)
			return told(form), e
		},
		"Basis": func(a api.Mat) ([]api.Int, api.Errno) {
			basis, e := hnf.Basis(a)
			return told(basis), e
		},
		"Full": func(a api.Mat) ([]api.Int, api.Errno) {
			full, e := hnf.Full(a)
			return told(full.H, full.U, full.W), e
		},
		"IsForm": func(a api.Mat) ([]api.Int, api.Errno) {
			is, e := hnf.IsForm(a)
			if is {
				return nums(1), e
			}
			return nil, e
		},
	}
}

// formsOnly are the calls that refuse a matrix that is not in Hermite form.
func formsOnly() map[string]taker {
	return map[string]taker{
		"Pivots": func(h api.Mat) ([]api.Int, api.Errno) {
			cols, e := hnf.Pivots(h)
			return nums(cols...), e
		},
		"Reduce of zeros":   reducer(0, num(0)),
		"Reduce of numbers": reducer(0, num(5), num(-3), minus(0, 0), plus(7, 0)),
		"Insert of zeros":   inserter(0, num(0)),
		"Insert of numbers": inserter(0, num(5), num(-3), minus(0, 0), plus(7, 0)),
	}
}

// unfit are the calls at rows that are too long.
func unfit() map[string]taker {
	return map[string]taker{
		"Reduce of one more":  reducer(1, num(5), num(-3)),
		"Reduce of many more": reducer(200, num(0)),
		"Insert of one more":  inserter(1, num(5), num(-3)),
		"Insert of many more": inserter(200, num(0)),
	}
}

// takers are all calls.
func takers() map[string]taker {
	all := anyMatrix()
	for _, some := range []map[string]taker{formsOnly(), unfit()} {
		for name, call := range some {
			all[name] = call
		}
	}
	return all
}

// holdRefusal asks for an error with nothing beside it.
func holdRefusal(t *testing.T, call string, got []api.Int, e, want api.Errno) {
	t.Helper()
	check.Same(t, call, e, want)
	check.Ints(t, call+", beside the error", got, nil)
}

// holdRefusals asks all of the calls for an error.
func holdRefusals(t *testing.T, calls map[string]taker, a api.Mat, want api.Errno) {
	t.Helper()
	for name, call := range calls {
		got, e := call(a)
		holdRefusal(t, of(name, a), got, e, want)
	}
}

// P18.1 to P18.5: a matrix that is not sound is told first, whatever else is wrong.
func TestUnsound(t *testing.T) {
	for _, a := range check.Unsound() {
		holdRefusals(t, takers(), a, api.ErrMat)
		got, e := hnf.Insert(a, nil)
		holdRefusal(t, of("Insert of nil", a), told(got), e, api.ErrMat)
		rest, c, e := hnf.Reduce(a, nil)
		holdRefusal(t, of("Reduce of nil", a), slices.Concat(rest, c), e, api.ErrMat)
	}
}

// forms are matrices in Hermite form, the edges among them.
func forms() []string {
	return []string{
		"0x0", "0x1", "0x3", "0x64", "1x0", "3x0", "64x0", "0", "1", "7", "0 0", "0; 0", "0 0 0; 0 0 0", "0 1", "0 5 -3", "1 -4", "4; 0", "1 0; 0 1", "2 3; 0 5", "2 4; 0 5", "2 0; 0 5", "1 0; 0 0",
		"3 -7; 0 0", "0 2; 0 0", "0 2 4; 0 0 5; 0 0 0", "1 0 -9; 0 1 9", "6 5 1 0; 0 7 2 0; 0 0 3 -8", "0 0 1 0 5; 0 0 0 2 -5; 0 0 0 0 0; 0 0 0 0 0",
	}
}

// noForms are sound matrices that are not in Hermite form, for each of the reasons.
func noForms() []string {
	return []string{
		// A pivot below 0.
		"-1", "-1 5", "0 -2; 0 0", "1 0; 0 -1", "2 3 1; 0 0 -5", "-3; 0",
		// A row of zeros above another.
		"0 0; 1 0", "0; 2", "0 0; 0 1", "1 0; 0 0; 0 1", "0 0 0; 0 0 0; 0 0 4",
		// A pivot below another, or left of it.
		"1; 1", "2; 1", "0 1; 1 0", "1 0; 1 1", "0 3; 0 2", "0 0 1; 0 1 0", "1 0 0; 0 0 1; 0 1 0", "1 0; 0 1; 0 1", "2 0; 1 0",
		// Above a pivot a number that is not reduced by it.
		"2 5; 0 5", "2 6; 0 5", "2 -1; 0 5", "1 1; 0 1", "1 0 3; 0 1 1; 0 0 2", "1 0 1; 0 1 3; 0 0 2", "1 0 -1; 0 1 1; 0 0 2", "1 2 0; 0 2 0; 0 0 1", "0 3 3; 0 0 3",
	}
}

// P18.3: what is in the form, and what is not, for each reason there is.
func TestIsForm(t *testing.T) {
	for _, text := range forms() {
		h := mx(text)
		holdIsForm(t, h, true)
		holdIsForm(t, made.Disguised(h), true)
		rank := rankOf(h)
		holdPivots(t, h, leads(h)[:rank])
		holdPivots(t, made.Disguised(h), leads(h)[:rank])
		holdForm(t, h, h)
	}
	for _, text := range noForms() {
		holdIsForm(t, mx(text), false)
		holdIsForm(t, made.Disguised(mx(text)), false)
		holdRefusals(t, formsOnly(), mx(text), api.ErrForm)
		holdRefusals(t, formsOnly(), made.Disguised(mx(text)), api.ErrForm)
	}
}

// P18.3: a form of 64 rows and columns, spoilt at one place in each way.
func TestIsFormOfLarge(t *testing.T) {
	h, _ := mat.Zero(64, 64)
	for i := range 64 {
		for j := i; j < 64; j++ {
			h.At[i*64+j] = num(3 + i + j)
		}
		for k := range i {
			h.At[k*64+i] = num((k + i) % (3 + 2*i))
		}
	}
	holdIsForm(t, h, true)
	holdPivots(t, h, first(64))
	refused := 0
	for _, place := range []int{0, 1, 63, 64, 65, 31*64 + 31, 30*64 + 31, 31*64 + 30, 62*64 + 63, 63*64 + 62, 63*64 + 63, 63 * 64} {
		for _, n := range []int{-1, 0, 1, 2 + 2*(place%64), 3 + 2*(place%64)} {
			other, _ := mat.Least(h)
			other.At[place] = num(n)
			is := isHermite(other)
			holdIsForm(t, other, is)
			if !is {
				holdRefusals(t, formsOnly(), other, api.ErrForm)
				refused++
			}
		}
	}
	check.Same(t, "how many are none", refused, 34)
}

// P18.4 and P18.5: what does not fit is told ahead of what is not in the form.
func TestFits(t *testing.T) {
	for _, text := range slices.Concat(forms(), noForms()) {
		h := mx(text)
		holdRefusals(t, unfit(), h, api.ErrFit)
		for count := range 66 {
			if count == h.Cols {
				continue
			}
			v := check.Filled(1, count, nums(1, 0, -5)).At
			rest, c, e := hnf.Reduce(h, v)
			holdRefusal(t, of("Reduce", h)+fmt.Sprint(v), slices.Concat(rest, c), e, api.ErrFit)
			basis, e := hnf.Insert(h, v)
			holdRefusal(t, of("Insert", h)+fmt.Sprint(v), told(basis), e, api.ErrFit)
		}
		if h.Cols > 0 {
			rest, c, e := hnf.Reduce(h, nil)
			holdRefusal(t, of("Reduce of nil", h), slices.Concat(rest, c), e, api.ErrFit)
			basis, e := hnf.Insert(h, nil)
			holdRefusal(t, of("Insert of nil", h), told(basis), e, api.ErrFit)
		}
	}
}

// P18.1, P18.2, P18.4 and P18.5 at matrices without rows, without columns, or with neither.
func TestEmpty(t *testing.T) {
	for _, n := range []int{0, 1, 2, 63, 64} {
		flat, thin := api.Mat{Cols: n}, api.Mat{Rows: n}
		holdForm(t, flat, flat)
		holdForm(t, thin, thin)
		full := holdFull(t, flat)
		check.Mat(t, of("U of Full", flat), full.U, mx("0x0"))
		full = holdFull(t, thin)
		check.Mat(t, of("U of Full", thin), full.U, unitOf(n))
		check.Mat(t, of("W of Full", thin), full.W, unitOf(n))
		v := check.Filled(1, n, nums(-3, 0, 2)).At
		holdReduce(t, flat, v, v, nil)
		holdReduce(t, thin, nil, nil, make([]api.Int, n))
		holdInsert(t, thin, nil, mx("0x0"))
		holdInsert(t, flat, make([]api.Int, n), flat)
		if n > 0 {
			inserted := api.Mat{Rows: 1, Cols: n, At: check.Filled(1, n, nums(3, 0, -2)).At}
			holdInsert(t, flat, v, inserted)
		}
	}
}
