package charpoly_test

import (
	"fmt"
	"math"
	"slices"
	"testing"

	"trellis/api"
	"trellis/charpoly"
	"trellis/check"
	"trellis/made"
	"trellis/mat"
	"trellis/zint"
)

// The integers, polynomials and matrices of the tests. A polynomial is written as a row: the coefficient of x^0 first.
var (
	num, nums   = check.Num, check.Nums
	plus, minus = check.Plus, check.Minus
	mx, poly    = check.Matrix, check.Row
	product     = made.Product
)

// of names a call in a test's report.
func of(name string, a api.Mat, others ...any) string {
	if len(a.At) > 30 {
		return fmt.Sprintf("%s of %d by %d %v", name, a.Rows, a.Cols, others)
	}
	return fmt.Sprintf("%s(%v) %v", name, a, others)
}

// unit is the unit matrix.
func unit(n int) api.Mat {
	u, _ := mat.Unit(n)
	return u
}

// scaled is k times the unit matrix.
func scaled(n int, k api.Int) api.Mat {
	s, _ := mat.Scale(k, unit(n))
	return s
}

// zero is the zero matrix of n rows.
func zero(n int) api.Mat {
	z, _ := mat.Zero(n, n)
	return z
}

// power is x^n, with so many zeros behind it.
func power(n, zeros int) []api.Int {
	p := make([]api.Int, n+1+zeros)
	p[n] = num(1)
	return p
}

// disguised is the same polynomial in another form: its coefficients in no least form, with zeros of each form at its high end.
func disguised(p []api.Int) []api.Int {
	return append(made.Disguised(api.Mat{Rows: 1, Cols: len(p), At: p}).At, check.Zeros()...)
}

// holdDivision, and those that follow, ask for an answer.
func holdDivision(t *testing.T, p, q, quot, rest []api.Int) {
	t.Helper()
	call := fmt.Sprintf("DivMonic(%v, %v)", p, q)
	gotQuot, gotRest, e := charpoly.DivMonic(p, q)
	check.Same(t, call, e, api.OK)
	check.Ints(t, call+": quotient", gotQuot, quot)
	check.Ints(t, call+": rest", gotRest, rest)
}

func holdAt(t *testing.T, p []api.Int, a, want api.Mat) {
	t.Helper()
	got, e := charpoly.At(p, a)
	check.Same(t, of("At", a, p), e, api.OK)
	check.Mat(t, of("At", a, p), got, want)
}

func holdChar(t *testing.T, a api.Mat, want []api.Int) {
	t.Helper()
	got, e := charpoly.Char(a)
	check.Same(t, of("Char", a), e, api.OK)
	check.Ints(t, of("Char", a), got, want)
}

func holdCompanion(t *testing.T, p []api.Int, want api.Mat) {
	t.Helper()
	got, e := charpoly.Companion(p)
	check.Same(t, fmt.Sprintf("Companion(%v)", p), e, api.OK)
	check.Mat(t, fmt.Sprintf("Companion(%v)", p), got, want)
}

func holdTraces(t *testing.T, a api.Mat, k int, want []api.Int) {
	t.Helper()
	got, e := charpoly.Traces(a, k)
	check.Same(t, of("Traces", a, k), e, api.OK)
	check.Ints(t, of("Traces", a, k), got, want)
}

func holdLeast(t *testing.T, a api.Mat, want []api.Int) {
	t.Helper()
	got, e := charpoly.LeastPoly(a)
	check.Same(t, of("LeastPoly", a), e, api.OK)
	check.Ints(t, of("LeastPoly", a), got, want)
}

// holdNoDivision, and those that follow, ask for an error with nothing beside it.
func holdNoDivision(t *testing.T, p, q []api.Int) {
	t.Helper()
	call := fmt.Sprintf("DivMonic(%v, %v)", p, q)
	quot, rest, e := charpoly.DivMonic(p, q)
	check.Same(t, call, e, api.ErrForm)
	check.Same(t, call+": what stands beside the error", len(quot)+len(rest), 0)
}

func holdNoCompanion(t *testing.T, p []api.Int, want api.Errno) {
	t.Helper()
	got, e := charpoly.Companion(p)
	check.Same(t, fmt.Sprintf("Companion(%v)", p), e, want)
	check.Mat(t, "Companion, beside the error", got, api.Mat{})
}

// taker is a call on a matrix and a number, which stands for the degree of the polynomial where one is asked for; what it answers is told as a list.
type taker func(a api.Mat, k int) ([]api.Int, api.Errno)

// takers are all calls on a matrix.
func takers() map[string]taker {
	return map[string]taker{
		"Char":      func(a api.Mat, k int) ([]api.Int, api.Errno) { return charpoly.Char(a) },
		"LeastPoly": func(a api.Mat, k int) ([]api.Int, api.Errno) { return charpoly.LeastPoly(a) },
		"Traces":    charpoly.Traces,
		"At": func(a api.Mat, k int) ([]api.Int, api.Errno) {
			// Of the ends of int there are no polynomials.
			got, e := charpoly.At(power(max(0, min(k, 1000)), 1), a)
			return got.At, e
		},
	}
}

func holdRefusal(t *testing.T, call string, got []api.Int, e, want api.Errno) {
	t.Helper()
	check.Same(t, call, e, want)
	check.Same(t, call+": what stands beside the error", len(got), 0)
}

// degrees are numbers, fit or not, for the takers.
func degrees() []int {
	return []int{0, 1, 2, 256, 257, -1, 1000, math.MinInt, math.MaxInt}
}

// P16.4, P16.5, P16.7, P16.8, R2: a matrix that is not sound is told first, whatever else is wrong.
func TestUnsound(t *testing.T) {
	for name, call := range takers() {
		for _, a := range check.Unsound() {
			for _, k := range degrees() {
				got, e := call(a, k)
				holdRefusal(t, of(name, a, k), got, e, api.ErrMat)
			}
		}
	}
}

// P16.4, P16.5, P16.7, P16.8, R2: then one that is not square.
func TestNotSquare(t *testing.T) {
	sizes := []int{0, 1, 2, 3, 5, 63, 64}
	for _, rows := range sizes {
		for _, cols := range sizes {
			if rows == cols {
				continue
			}
			for _, entries := range [][]api.Int{nums(0), nums(1, 0, -2)} {
				a := check.Filled(rows, cols, entries)
				for name, call := range takers() {
					for _, k := range degrees() {
						got, e := call(a, k)
						holdRefusal(t, of(name, a, k), got, e, api.ErrFit)
					}
				}
			}
		}
	}
}

// P16.7: numbers of powers from 0 to MaxPow, and no others.
func TestTracesOutside(t *testing.T) {
	for _, a := range []api.Mat{mx("0x0"), mx("1"), mx("0 1; 1 0"), unit(64)} {
		for _, k := range []int{-1, -2, 257, 258, 1 << 32, 1<<32 + 1, math.MinInt, math.MinInt + 1, math.MaxInt} {
			got, e := charpoly.Traces(a, k)
			holdRefusal(t, of("Traces", a, k), got, e, api.ErrArg)
		}
	}
	for _, n := range []int{0, 1, 2, 64} {
		holdTraces(t, unit(n), 0, nil)
		holdTraces(t, unit(n), 256, check.Filled(1, 256, nums(n)).At)
	}
}

// P16.4: degrees up to MaxPow, however long the list is, and none above it.
func TestDegreesOfAt(t *testing.T) {
	for _, zeros := range []int{0, 1, 300} {
		for _, degree := range []int{255, 256} {
			holdAt(t, power(degree, zeros), mx("-1"), []api.Mat{mx("1"), mx("-1")}[degree%2])
			holdAt(t, power(degree, zeros), mx("0 1; 1 0"), []api.Mat{mx("1 0; 0 1"), mx("0 1; 1 0")}[degree%2])
		}
		for _, degree := range []int{257, 258, 512, 2000} {
			for _, a := range []api.Mat{mx("0x0"), mx("0"), mx("1"), mx("1 2; 3 4")} {
				got, e := charpoly.At(power(degree, zeros), a)
				check.Same(t, of("At", a, degree), e, api.ErrLarge)
				check.Mat(t, "At, beside the error", got, api.Mat{})
			}
		}
	}
}

// P16.2: only what is monic divides: not 0, not what begins with -1 or 2, not where 1 stands elsewhere.
func TestNotMonic(t *testing.T) {
	for _, q := range [][]api.Int{
		nil, {}, check.Zeros(), nums(2), nums(-1), nums(0), nums(1, 2), nums(1, -1), nums(1, 1, 0, 3), nums(1, -1, 0), {num(1), plus(0, 1)}, {plus(1, 1)}, {minus(1, 0)}, {num(1), plus(1, 1, 0), num(0)},
	} {
		for _, p := range [][]api.Int{nil, nums(0), nums(1), nums(2, 4, 6), q, power(9, 1)} {
			holdNoDivision(t, p, q)
		}
	}
	for _, p := range [][]api.Int{nil, nums(0, 0), nums(7), nums(2, 4, 6), nums(1, 0, -1, 0)} {
		for _, one := range [][]api.Int{nums(1), nums(1, 0), {plus(1, 0), minus(0)}} {
			holdDivision(t, p, one, charpoly.Trim(p), nil)
		}
	}
}

// P16.6: degrees up to MaxDim and, of these, what is monic; the degree is told first.
func TestNoCompanion(t *testing.T) {
	for _, p := range [][]api.Int{nil, {}, nums(0), check.Zeros(), nums(2), nums(-1), nums(1, 2), nums(1, -1), nums(1, 1, 0, 3), {plus(1, 1)}, {minus(1, 0)}, append(make([]api.Int, 64), num(2)), append(make([]api.Int, 64), num(-1), num(0))} {
		holdNoCompanion(t, p, api.ErrForm)
	}
	for _, top := range []api.Int{num(1), num(2), num(-1), plus(1, 1)} {
		for _, degree := range []int{65, 66, 257, 3000} {
			holdNoCompanion(t, append(make([]api.Int, degree), top), api.ErrLarge)
			holdNoCompanion(t, append(make([]api.Int, degree), top, num(0), minus(0)), api.ErrLarge)
		}
	}
}

// P16.6: each degree up to MaxDim, by the places that the chapter names.
func TestCompanions(t *testing.T) {
	for n := range 65 {
		s := &made.Source{Words: n % 4, Seed: uint64(n)}
		p := append(s.Whole(1, n).At, num(1))
		want := zero(n)
		for i := range n {
			for j := range n {
				switch {
				case i == n-1:
					want.At[i*n+j] = zint.Neg(p[j])
				case j == i+1:
					want.At[i*n+j] = num(1)
				}
			}
		}
		holdCompanion(t, p, want)
		holdCompanion(t, disguised(p), want)
	}
}

// P16.1: each integer as the one coefficient, alone and behind zeros.
func TestSingleCoefficients(t *testing.T) {
	for _, n := range slices.Concat(check.Integers(), check.Zeros()) {
		want := []api.Int{num(0), num(0), zint.Least(n)}
		if zint.Sign(n) == 0 {
			want = nil
		}
		p := []api.Int{minus(), plus(0, 0), n, minus(0), num(0)}
		check.Ints(t, "Trim", charpoly.Trim(p), want)
		check.Ints(t, "Add of 0", charpoly.Add(p, nums(0)), want)
		check.Ints(t, "Add to 0", charpoly.Add(nil, p), want)
		check.Ints(t, "Mul by 1", charpoly.Mul(p, nums(1, 0)), want)
		check.Ints(t, "Mul of 1", charpoly.Mul(nums(1), p), want)
		check.Ints(t, "Mul by 0", charpoly.Mul(p, check.Zeros()), nil)
		check.Ints(t, "Mul of 0", charpoly.Mul(nil, p), nil)
		check.Ints(t, "p less p", charpoly.Add(p, charpoly.Mul(p, nums(-1))), nil)
		holdDivision(t, p, power(2, 3), charpoly.Trim([]api.Int{n}), nil)
		holdDivision(t, p, power(3, 0), nil, want)
	}
}

// P16.3: each integer as the number, and each as a coefficient.
func TestValues(t *testing.T) {
	for _, n := range slices.Concat(check.Integers(), check.Zeros()) {
		least := zint.Least(n)
		check.Int(t, "1 + 0x", charpoly.Value(nums(1, 0), n), num(1))
		check.Int(t, "0", charpoly.Value(check.Zeros(), n), num(0))
		check.Int(t, "x", charpoly.Value(nums(0, 1), n), least)
		check.Int(t, "7 - 2x", charpoly.Value(nums(7, -2), n), zint.MulAdd(num(-2), n, num(7)))
		check.Int(t, "x^2 + x", charpoly.Value(nums(0, 1, 1, 0), n), zint.Mul(n, zint.Add(n, num(1))))
		check.Int(t, "n", charpoly.Value([]api.Int{n}, num(5)), least)
		check.Int(t, "n at 0", charpoly.Value([]api.Int{n, n, n}, minus(0)), least)
		check.Int(t, "n at 1", charpoly.Value([]api.Int{n, n, n}, plus(1, 0)), zint.Mul(n, num(3)))
		check.Int(t, "n at -1", charpoly.Value([]api.Int{n, n, n, n}, num(-1)), num(0))
		check.Int(t, "nx^4 at -2", charpoly.Value([]api.Int{num(0), num(0), num(0), num(0), n}, num(-2)), zint.Mul(n, num(16)))
	}
}

// P16.5, P16.7, P16.8: each integer as a matrix of one row and column.
func TestSingleEntries(t *testing.T) {
	for _, n := range slices.Concat(check.Integers(), check.Zeros()) {
		a := api.Mat{Rows: 1, Cols: 1, At: []api.Int{n}}
		least := zint.Least(n)
		holdChar(t, a, []api.Int{zint.Neg(n), num(1)})
		holdLeast(t, a, []api.Int{zint.Neg(n), num(1)})
		holdTraces(t, a, 3, []api.Int{least, zint.Mul(n, n), zint.Mul(n, zint.Mul(n, n))})
		holdAt(t, nums(0, 1), a, api.Mat{Rows: 1, Cols: 1, At: []api.Int{least}})
		holdAt(t, []api.Int{n, n, num(0)}, mx("2"), api.Mat{Rows: 1, Cols: 1, At: []api.Int{zint.Mul(n, num(3))}})
		holdAt(t, []api.Int{n}, mx("1 2; 3 4"), scaled(2, n))
		holdCompanion(t, []api.Int{n, num(1)}, api.Mat{Rows: 1, Cols: 1, At: []api.Int{zint.Neg(n)}})
	}
}

// P16.4, P16.5, P16.7, P16.8: the matrix without rows.
func TestNoRows(t *testing.T) {
	none := mx("0x0")
	holdChar(t, none, nums(1))
	holdLeast(t, none, nums(1))
	for _, k := range []int{0, 1, 2, 256} {
		holdTraces(t, none, k, make([]api.Int, k))
	}
	for _, p := range [][]api.Int{nil, nums(0, 0), nums(1), nums(5, 0, -2), power(256, 9)} {
		holdAt(t, p, none, none)
	}
}
