package rref_test

import (
	"fmt"
	"slices"
	"testing"

	"trellis/api"
	"trellis/check"
	"trellis/made"
	"trellis/mat"
	"trellis/rref"
	"trellis/zint"
)

// The integers, rows and matrices of the tests.
var (
	num, nums   = check.Num, check.Nums
	plus, minus = check.Plus, check.Minus
	row, mx     = check.FracRow, check.FracMatrix
	whole       = check.Matrix
	first       = made.First
)

// called is how a matrix is named in a test's report.
func called(q api.QMat) string {
	if len(q.At) > 30 {
		return fmt.Sprintf(" of %d by %d", q.Rows, q.Cols)
	}
	return fmt.Sprintf("(%v)", q)
}

// of names a call in a test's report.
func of(name string, q api.QMat) string {
	return name + called(q)
}

// holdPlaces asks for a list of columns.
func holdPlaces(t *testing.T, call string, got, want []int) {
	t.Helper()
	if !slices.Equal(got, want) {
		t.Errorf("%s: %v, want %v", call, got, want)
	}
}

// holdForm asks for this form with these columns.
func holdForm(t *testing.T, q, want api.QMat, columns []int) {
	t.Helper()
	got, pivots, e := rref.Form(q)
	check.Same(t, of("Form", q), e, api.OK)
	check.QMat(t, of("Form", q), got, want)
	holdPlaces(t, of("columns of Form", q), pivots, columns)
}

// holdKernel asks for this kernel.
func holdKernel(t *testing.T, q, want api.QMat) {
	t.Helper()
	got, e := rref.Kernel(q)
	check.Same(t, of("Kernel", q), e, api.OK)
	check.QMat(t, of("Kernel", q), got, want)
}

// holdSolve asks for this solution.
func holdSolve(t *testing.T, q api.QMat, b, want []api.Frac) {
	t.Helper()
	got, e := rref.Solve(q, b)
	check.Same(t, of("Solve", q), e, api.OK)
	check.Fracs(t, of(fmt.Sprint("Solve of ", b), q), got, want)
}

// holdInverse asks for this inverse.
func holdInverse(t *testing.T, q, want api.QMat) {
	t.Helper()
	got, e := rref.Inverse(q)
	check.Same(t, of("Inverse", q), e, api.OK)
	check.QMat(t, of("Inverse", q), got, want)
}

// holdMul asks for this product.
func holdMul(t *testing.T, p, q, want api.QMat) {
	t.Helper()
	got, e := rref.Mul(p, q)
	check.Same(t, of("Mul", p)+called(q), e, api.OK)
	check.QMat(t, of("Mul", p)+called(q), got, want)
}

// holdClear asks for these integers and these numbers.
func holdClear(t *testing.T, q api.QMat, want api.Mat, numbers []api.Int) {
	t.Helper()
	got, by, e := rref.Clear(q)
	check.Same(t, of("Clear", q), e, api.OK)
	check.Mat(t, of("Clear", q), got, want)
	check.Ints(t, of("numbers of Clear", q), by, numbers)
}

// taker is a call on a matrix of fractions, what it answers told as one list; nothing is told of zero values.
type taker func(q api.QMat) ([]api.Frac, api.Errno)

// told is a matrix as a list: its shape, and its entries.
func told(q api.QMat, others ...api.Frac) []api.Frac {
	if q.Rows == 0 && q.Cols == 0 && len(q.At)+len(others) == 0 {
		return nil
	}
	return slices.Concat([]api.Frac{check.Over(q.Rows, 1), check.Over(q.Cols, 1)}, q.At, others)
}

// asFracs are integers over nothing.
func asFracs(list []api.Int) []api.Frac {
	var all []api.Frac
	for _, n := range list {
		all = append(all, api.Frac{Num: n})
	}
	return all
}

// solver is Solve with b made of these fractions, as many as the matrix has columns and some more.
func solver(more int, fractions string) taker {
	return func(q api.QMat) ([]api.Frac, api.Errno) {
		b := slices.Repeat(row(fractions), 70)
		return rref.Solve(q, b[:min(max(q.Cols, 0), 65)+more])
	}
}

// anyShape are the calls that take matrices of every shape.
func anyShape() map[string]taker {
	return map[string]taker{
		"Check": func(q api.QMat) ([]api.Frac, api.Errno) { return nil, rref.Check(q) },
		"Form": func(q api.QMat) ([]api.Frac, api.Errno) {
			form, columns, e := rref.Form(q)
			return told(form, asFracs(nums(columns...))...), e
		},
		"Kernel": func(q api.QMat) ([]api.Frac, api.Errno) {
			kernel, e := rref.Kernel(q)
			return told(kernel), e
		},
		"Clear": func(q api.QMat) ([]api.Frac, api.Errno) {
			a, by, e := rref.Clear(q)
			return told(api.QMat{Rows: a.Rows, Cols: a.Cols, At: asFracs(a.At)}, asFracs(by)...), e
		},
		"Solve of zeros": solver(0, "0"),
		"Solve of ones":  solver(0, "1"),
		"Mul by a column": func(q api.QMat) ([]api.Frac, api.Errno) {
			product, e := rref.Mul(q, filled(min(max(q.Cols, 0), 64), 1, row("1/2 3")))
			return told(product), e
		},
		"Mul of a row": func(q api.QMat) ([]api.Frac, api.Errno) {
			product, e := rref.Mul(filled(1, min(max(q.Rows, 0), 64), row("1/2 3")), q)
			return told(product), e
		},
	}
}

// inverse is the call that takes square matrices alone.
func inverse(q api.QMat) ([]api.Frac, api.Errno) {
	got, e := rref.Inverse(q)
	return told(got), e
}

// takers are all calls on one matrix.
func takers() map[string]taker {
	all := anyShape()
	all["Inverse"] = inverse
	return all
}

// filled is the matrix of this shape whose entries are taken from a list, which begins anew where it ends.
func filled(rows, cols int, list []api.Frac) api.QMat {
	q := api.QMat{Rows: rows, Cols: cols}
	for i := range rows * cols {
		q.At = append(q.At, list[i%len(list)])
	}
	return q
}

// holdRefusal asks for an error with nothing beside it.
func holdRefusal(t *testing.T, call string, got []api.Frac, e, want api.Errno) {
	t.Helper()
	check.Same(t, call, e, want)
	check.Fracs(t, call+", beside the error", got, nil)
}

// shapes are all shapes of few rows and columns, and such with 64 of them.
func shapes() [][2]int {
	var all [][2]int
	for _, rows := range []int{0, 1, 2, 3, 5, 64} {
		for _, cols := range []int{0, 1, 2, 3, 5, 64} {
			all = append(all, [2]int{rows, cols})
		}
	}
	return all
}

// unsound are matrices that are not sound, with such as are no fractions among their entries.
func unsound() []api.QMat {
	var all []api.QMat
	for _, a := range check.Unsound() {
		for _, den := range []int{1, 0} {
			q := api.QMat{Rows: a.Rows, Cols: a.Cols}
			for _, n := range a.At {
				q.At = append(q.At, api.Frac{Num: n, Den: num(den)})
			}
			all = append(all, q)
		}
	}
	return all
}

// P17.1 to P17.7: a matrix that is not sound is told first, whatever else is wrong.
func TestUnsound(t *testing.T) {
	calls := takers()
	for _, more := range []int{1, 5} {
		calls[fmt.Sprint("Solve with more: ", more)] = solver(more, "1/0 1")
	}
	sound := []api.QMat{mx("0x0"), mx("1"), mx("1 2; 3 4"), mx("1/0"), mx("0x64"), mx("64x0")}
	for _, q := range unsound() {
		for name, call := range calls {
			got, e := call(q)
			holdRefusal(t, of(name, q), got, e, api.ErrMat)
		}
		for _, p := range append(sound, q) {
			got, e := rref.Mul(p, q)
			holdRefusal(t, of("Mul", p)+called(q), told(got), e, api.ErrMat)
			got, e = rref.Mul(q, p)
			holdRefusal(t, of("Mul", q)+called(p), told(got), e, api.ErrMat)
		}
	}
	for _, a := range check.Unsound() {
		got, e := rref.From(a)
		holdRefusal(t, fmt.Sprintf("From(%v)", a), told(got), e, api.ErrMat)
	}
}

// P17.2, P17.5, P17.6: what does not fit is told ahead of what is no fraction, and of what there is not.
func TestFits(t *testing.T) {
	for _, fractions := range []string{"0", "1 -2/4 3", "1 1/0", "0/0"} {
		for _, shape := range shapes() {
			q := filled(shape[0], shape[1], row(fractions))
			if q.Rows != q.Cols {
				got, e := inverse(q)
				holdRefusal(t, of("Inverse", q), got, e, api.ErrFit)
			}
			for _, count := range []int{0, 1, 2, 3, 4, 5, 63, 64, 65, 1000} {
				for _, numbers := range []string{"0", "1/2", "1/0"} {
					if count != q.Cols {
						got, e := rref.Solve(q, filled(1, count, row(numbers)).At)
						holdRefusal(t, of(fmt.Sprintf("Solve of %d numbers", count), q), got, e, api.ErrFit)
					}
				}
			}
			for _, other := range shapes() {
				p := filled(other[0], other[1], row("1/0"))
				if p.Cols != q.Rows {
					got, e := rref.Mul(p, q)
					holdRefusal(t, of("Mul", p)+called(q), told(got), e, api.ErrFit)
				}
				if q.Cols != p.Rows {
					got, e := rref.Mul(q, p)
					holdRefusal(t, of("Mul", q)+called(p), told(got), e, api.ErrFit)
				}
			}
		}
	}
	got, e := rref.Solve(mx("1 2; 3 4"), nil)
	holdRefusal(t, "Solve of nil", got, e, api.ErrFit)
}

// spoilt are copies of q with one that is no fraction at a place, in each form of 0.
func spoilt(q api.QMat, place int) []api.QMat {
	var all []api.QMat
	for _, zero := range check.Zeros() {
		for _, n := range []api.Int{num(1), num(-7), zero} {
			other := api.QMat{Rows: q.Rows, Cols: q.Cols, At: slices.Clone(q.At)}
			other.At[place] = api.Frac{Num: n, Den: zero}
			all = append(all, other)
		}
	}
	return all
}

// P17.1 to P17.7: what is no fraction is told at every place, and ahead of what there is not: of zeros there is no inverse, and ones are no combination of them.
func TestNoFraction(t *testing.T) {
	for _, shape := range [][2]int{{1, 1}, {1, 3}, {3, 1}, {2, 2}, {3, 3}, {64, 64}} {
		for _, fractions := range []string{"0", "3/2 1 2/6 5"} {
			q := filled(shape[0], shape[1], row(fractions))
			for place := 0; place < len(q.At); place += 1 + len(q.At)/20 {
				for _, other := range spoilt(q, place) {
					holdNoFraction(t, other)
				}
			}
			b := filled(1, q.Cols, row("1"))
			for place := range b.At {
				for _, other := range spoilt(b, place) {
					got, e := rref.Solve(q, other.At)
					holdRefusal(t, of(fmt.Sprint("Solve of ", other.At), q), got, e, api.ErrZero)
				}
			}
		}
	}
	// Where the matrix has no entries, b alone can have the fault.
	got, e := rref.Solve(mx("0x2"), row("1 1/0"))
	holdRefusal(t, "Solve of 1 1/0 without rows", got, e, api.ErrZero)
	// The other matrix of a product has no entries to be multiplied with it.
	product, e := rref.Mul(mx("0x1"), mx("1/0 2"))
	holdRefusal(t, "Mul of no rows by 1/0 2", told(product), e, api.ErrZero)
	product, e = rref.Mul(mx("1/0; 2"), mx("1x0"))
	holdRefusal(t, "Mul of 1/0; 2 by no columns", told(product), e, api.ErrZero)
}

// holdNoFraction holds all calls at a matrix that has one that is no fraction.
func holdNoFraction(t *testing.T, q api.QMat) {
	t.Helper()
	for name, call := range anyShape() {
		got, e := call(q)
		holdRefusal(t, of(name, q), got, e, api.ErrZero)
	}
	if q.Rows == q.Cols {
		got, e := inverse(q)
		holdRefusal(t, of("Inverse", q), got, e, api.ErrZero)
	}
}

// P17.1: all shapes are sound, with fractions in any terms.
func TestCheck(t *testing.T) {
	for _, shape := range shapes() {
		q := filled(shape[0], shape[1], row("0 1/2 -4/6 3/-9 0/-5"))
		check.Same(t, of("Check", q), rref.Check(q), api.OK)
	}
	for _, n := range check.Integers() {
		q := api.QMat{Rows: 1, Cols: 1, At: []api.Frac{{Num: num(1), Den: n}}}
		want := api.OK
		if zint.Sign(n) == 0 {
			want = api.ErrZero
		}
		check.Same(t, of("Check", q), rref.Check(q), want)
	}
}

// P17.1: each entry, in whatever form, over 1.
func TestFrom(t *testing.T) {
	for text, want := range map[string]string{"0x0": "0x0", "0x3": "0x3", "64x0": "64x0", "0": "0/1", "1 -2; 0 4": "1/1 -2/1; 0/1 4/1", "5 6 7": "5/1 6/1 7/1", "5; 6; 7": "5/1; 6/1; 7/1"} {
		got, e := rref.From(whole(text))
		check.Same(t, "From("+text+")", e, api.OK)
		check.QMat(t, "From("+text+")", got, mx(want))
	}
	for _, shape := range shapes() {
		a := check.Filled(shape[0], shape[1], check.Integers())
		least, _ := mat.Least(a)
		want := api.QMat{Rows: a.Rows, Cols: a.Cols}
		for _, n := range least.At {
			want.At = append(want.At, api.Frac{Num: n, Den: num(1)})
		}
		got, e := rref.From(a)
		check.Same(t, of("From", want), e, api.OK)
		check.QMat(t, of("From", want), got, want)
	}
}
