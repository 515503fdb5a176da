package modhnf_test

import (
	"fmt"
	"slices"
	"testing"

	"trellis/api"
	"trellis/check"
	"trellis/hnf"
	"trellis/made"
	"trellis/mat"
	"trellis/modhnf"
	"trellis/zint"
)

// The integers and matrices of the tests.
var (
	num, nums   = check.Num, check.Nums
	plus, minus = check.Plus, check.Minus
	mx          = check.Matrix
	first       = made.First
	product     = made.Product
)

// called is how a matrix is named in a test's report.
func called(a api.Mat) string {
	if len(a.At) > 30 {
		return fmt.Sprintf(" of %d by %d", a.Rows, a.Cols)
	}
	return fmt.Sprintf("(%d by %d %v)", a.Rows, a.Cols, a.At)
}

// of names a call in a test's report.
func of(name string, a api.Mat) string {
	return name + called(a)
}

// rowsBefore are so many rows of a sound matrix.
func rowsBefore(a api.Mat, end int) api.Mat {
	return api.Mat{Rows: end, Cols: a.Cols, At: a.At[:end*a.Cols]}
}

// multiples is d times the unit matrix of n rows.
func multiples(d api.Int, n int) api.Mat {
	a, _ := mat.Diag(n, n, check.Filled(1, n, []api.Int{d}).At)
	return a
}

// leads are the columns of the first numbers of the rows that are not zero.
func leads(h api.Mat) []int {
	var all []int
	for _, line := range mat.Lines(h) {
		if c := slices.IndexFunc(line, func(n api.Int) bool { return zint.Sign(n) != 0 }); c >= 0 {
			all = append(all, c)
		}
	}
	return all
}

// pivotsProduct is the product of the pivots of a form.
func pivotsProduct(h api.Mat) api.Int {
	whole := num(1)
	for i, c := range leads(h) {
		whole = zint.Mul(whole, h.At[i*h.Cols+c])
	}
	return whole
}

// holdForm asks for this form, and for the product of its pivots.
func holdForm(t *testing.T, a, want api.Mat) {
	t.Helper()
	got, e := modhnf.Form(a)
	check.Same(t, of("Form", a), e, api.OK)
	check.Mat(t, of("Form", a), got, want)
	holdVolume(t, a, pivotsProduct(want))
}

// holdRoads asks both roads to the form for the same, entry by entry.
func holdRoads(t *testing.T, a api.Mat) api.Mat {
	t.Helper()
	want, e := hnf.Form(a)
	check.Same(t, of("hnf.Form", a), e, api.OK)
	holdForm(t, a, want)
	return want
}

func holdVolume(t *testing.T, a api.Mat, want api.Int) {
	t.Helper()
	got, e := modhnf.Volume(a)
	check.Same(t, of("Volume", a), e, api.OK)
	check.Int(t, of("Volume", a), got, want)
}

func holdMultiple(t *testing.T, a api.Mat, want api.Int) {
	t.Helper()
	got, e := modhnf.Multiple(a)
	check.Same(t, of("Multiple", a), e, api.OK)
	check.Int(t, of("Multiple", a), got, want)
}

// holdModulo asks for this basis, whichever sign d has.
func holdModulo(t *testing.T, a api.Mat, d api.Int, want api.Mat) {
	t.Helper()
	turned := api.Int{Neg: !d.Neg, Mag: d.Mag}
	for _, n := range []api.Int{d, turned} {
		got, e := modhnf.Modulo(a, n)
		call := of("Modulo", a) + fmt.Sprint(n)
		check.Same(t, call, e, api.OK)
		check.Mat(t, call, got, want)
	}
}

// stacked is the Hermite basis of the rows of a and of d times the unit matrix, by layer 18, row by row: together they may be more than a matrix has.
func stacked(t *testing.T, a api.Mat, d api.Int) api.Mat {
	t.Helper()
	basis := multiples(zint.Abs(d), a.Cols)
	for _, line := range mat.Lines(a) {
		next, e := hnf.Insert(basis, line)
		check.Same(t, of("hnf.Insert", basis), e, api.OK)
		basis = next
	}
	return basis
}

// taker is a call on a matrix, what it answers told as one list of integers; nothing is told of zero values.
type taker func(a api.Mat) ([]api.Int, api.Errno)

// toldMat is a matrix as one list: its shape, and its entries. Of one that has neither nothing is told.
func toldMat(a api.Mat) []api.Int {
	if a.Rows == 0 && a.Cols == 0 && len(a.At) == 0 {
		return nil
	}
	return slices.Concat(nums(a.Rows, a.Cols), a.At)
}

// toldInt is an integer as a list. Of the zero value nothing is told.
func toldInt(n api.Int) []api.Int {
	if !n.Neg && len(n.Mag) == 0 {
		return nil
	}
	return []api.Int{n}
}

// moduloOf is Modulo at this number.
func moduloOf(d api.Int) taker {
	return func(a api.Mat) ([]api.Int, api.Errno) {
		basis, e := modhnf.Modulo(a, d)
		return toldMat(basis), e
	}
}

// takers are all calls.
func takers() map[string]taker {
	all := map[string]taker{
		"Form": func(a api.Mat) ([]api.Int, api.Errno) {
			form, e := modhnf.Form(a)
			return toldMat(form), e
		},
		"Volume": func(a api.Mat) ([]api.Int, api.Errno) {
			volume, e := modhnf.Volume(a)
			return toldInt(volume), e
		},
		"Multiple": func(a api.Mat) ([]api.Int, api.Errno) {
			multiple, e := modhnf.Multiple(a)
			return toldInt(multiple), e
		},
	}
	for _, d := range slices.Concat(check.Zeros(), nums(1, -1, 6, -35), []api.Int{plus(5, 0), minus(0, 3, 0)}) {
		all[fmt.Sprint("Modulo at ", d)] = moduloOf(d)
	}
	return all
}

// holdRefusal asks a call for an error with nothing beside it.
func holdRefusal(t *testing.T, name string, call taker, a api.Mat, want api.Errno) {
	t.Helper()
	got, e := call(a)
	check.Same(t, of(name, a), e, want)
	check.Ints(t, of(name, a)+", beside the error", got, nil)
}

// P19.1 to P19.4: a matrix that is not sound is told first, d being 0 or not.
func TestUnsound(t *testing.T) {
	for _, a := range check.Unsound() {
		for name, call := range takers() {
			holdRefusal(t, name, call, a, api.ErrMat)
		}
	}
}

// P19.1: d is 0, in whatever form, and the matrix whatever it may be.
func TestModuloZero(t *testing.T) {
	matrices := append(made.Samples(), mx("64x0"), mx("0x64"), check.Filled(64, 64, nums(0, 1)), check.Filled(64, 1, check.Zeros()))
	for _, a := range matrices {
		for _, d := range check.Zeros() {
			holdRefusal(t, fmt.Sprint("Modulo at ", d), moduloOf(d), a, api.ErrZero)
		}
	}
}

// R1: all calls answer at every sound matrix.
func TestSound(t *testing.T) {
	for _, a := range made.Samples() {
		for name, call := range takers() {
			if _, e := call(a); e != api.OK && e != api.ErrZero {
				t.Errorf("%s: %d", of(name, a), e)
			}
		}
	}
}
