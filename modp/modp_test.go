package modp_test

import (
	"fmt"
	"testing"

	"trellis/api"
	"trellis/check"
	"trellis/mat"
	"trellis/modp"
	"trellis/zint"
)

const (
	top      = check.Top
	greatest = 2147483647 // the greatest prime below 2^31
)

// The integers, rows and matrices of the tests.
var (
	num, nums   = check.Num, check.Nums
	plus, minus = check.Plus, check.Minus
	row, mx     = check.Row, check.Matrix
)

// moduli are primes, the least and the greatest among them.
func moduli() []uint64 {
	return []uint64{2, 3, 5, 7, 65537, 1073741827, 2147483629, greatest}
}

// noModuli are no primes, or such as are too large.
func noModuli() []uint64 {
	return []uint64{0, 1, 4, 6, 9, 561, 2047, 2147483641, 2147483646, 46337 * 46337, 1 << 31, 1<<31 + 1, 1<<31 + 11, 1 << 32, 1<<32 + 2, 1<<32 - 5, 1<<32 + 15, 1 << 63, top - 58, top}
}

// hold asks for a matrix without an error.
func hold(t *testing.T, call string, got api.Mat, e api.Errno, want api.Mat) {
	t.Helper()
	check.Same(t, call, e, api.OK)
	check.Mat(t, call, got, want)
}

// holdRow asks for a list without an error.
func holdRow(t *testing.T, call string, got []api.Int, e api.Errno, want []api.Int) {
	t.Helper()
	check.Same(t, call, e, api.OK)
	check.Ints(t, call, got, want)
}

// holdRefusal asks for an error with nothing beside it.
func holdRefusal(t *testing.T, call string, got api.Mat, e, want api.Errno) {
	t.Helper()
	check.Same(t, call, e, want)
	check.Mat(t, call+", beside the error", got, api.Mat{})
}

// asRow is the matrix of one row, or the one without rows and columns where there is nothing.
func asRow(list []api.Int) api.Mat {
	if len(list) == 0 {
		return api.Mat{}
	}
	return api.Mat{Rows: 1, Cols: len(list), At: list}
}

// taker is a call on a matrix and a modulus. What it answers is put into a matrix where it is none; 0 is nothing.
type taker func(a api.Mat, p uint64) (api.Mat, api.Errno)

// solver is Solve with this b.
func solver(b []api.Int) taker {
	return func(a api.Mat, p uint64) (api.Mat, api.Errno) {
		x, e := modp.Solve(a, b, p)
		return asRow(x), e
	}
}

// anyShape are the calls that take matrices of every shape.
func anyShape() map[string]taker {
	return map[string]taker{
		"Reduce": modp.Reduce, "Echelon": modp.Echelon, "Kernel": modp.Kernel,
		"Rank": func(a api.Mat, p uint64) (api.Mat, api.Errno) {
			rank, e := modp.Rank(a, p)
			if rank == 0 {
				return api.Mat{}, e
			}
			return asRow(nums(rank)), e
		},
		"Solve of zeros": func(a api.Mat, p uint64) (api.Mat, api.Errno) {
			return solver(make([]api.Int, min(max(a.Cols, 0), 70)))(a, p)
		},
		"Solve of ones": func(a api.Mat, p uint64) (api.Mat, api.Errno) {
			return solver(check.Filled(1, min(max(a.Cols, 0), 70), nums(1)).At)(a, p)
		},
	}
}

// squareOnly are the calls that refuse a matrix that is not square.
func squareOnly() map[string]taker {
	return map[string]taker{
		"Inverse": modp.Inverse,
		"Det": func(a api.Mat, p uint64) (api.Mat, api.Errno) {
			d, e := modp.Det(a, p)
			if d == 0 {
				return api.Mat{}, e
			}
			return asRow([]api.Int{plus(d)}), e
		},
	}
}

// takers are all calls that take a matrix.
func takers() map[string]taker {
	all := anyShape()
	for name, call := range squareOnly() {
		all[name] = call
	}
	return all
}

// of names a call in a test's report.
func of(name string, a api.Mat, p uint64) string {
	if len(a.At) > 30 {
		return fmt.Sprintf("%s of %d by %d, %d", name, a.Rows, a.Cols, p)
	}
	return fmt.Sprintf("%s(%v, %d)", name, a, p)
}

// shapes are all shapes of few rows and columns, and those with 64 of them.
func shapes() [][2]int {
	var all [][2]int
	for _, rows := range []int{0, 1, 2, 3, 5, 64} {
		for _, cols := range []int{0, 1, 2, 3, 5, 64} {
			all = append(all, [2]int{rows, cols})
		}
	}
	return all
}

// P12.2 to P12.6: a matrix that is not sound is told first, whatever else is wrong.
func TestUnsound(t *testing.T) {
	calls := takers()
	for _, count := range []int{0, 1, 2, 64, 65} {
		calls[fmt.Sprintf("Solve of %d numbers", count)] = solver(make([]api.Int, count))
	}
	for name, call := range calls {
		for _, a := range check.Unsound() {
			for _, p := range append(moduli(), noModuli()...) {
				got, e := call(a, p)
				holdRefusal(t, of(name, a, p), got, e, api.ErrMat)
			}
		}
	}
}

// P12.3, P12.5, P12.6: what does not fit is told ahead of a modulus that is none, and of what there is not.
func TestFits(t *testing.T) {
	for _, shape := range shapes() {
		a := check.Filled(shape[0], shape[1], nums(0, 1, -2))
		for _, p := range append(moduli(), noModuli()...) {
			for name, call := range squareOnly() {
				if a.Rows != a.Cols {
					got, e := call(a, p)
					holdRefusal(t, of(name, a, p), got, e, api.ErrFit)
				}
			}
			for _, count := range []int{0, 1, 2, 3, 4, 5, 6, 63, 64, 65, 1000} {
				if count != a.Cols {
					got, e := solver(check.Filled(1, count, nums(1, 0)).At)(a, p)
					holdRefusal(t, of(fmt.Sprintf("Solve of %d numbers", count), a, p), got, e, api.ErrFit)
				}
			}
		}
	}
	got, e := solver(nil)(mx("1 2; 3 4"), 5)
	holdRefusal(t, "Solve of nil", got, e, api.ErrFit)
}

// P12.2 to P12.6: a modulus that is none is told ahead of what there is not, of matrices of every shape.
func TestNoModulus(t *testing.T) {
	for name, call := range takers() {
		for _, shape := range shapes() {
			if _, square := squareOnly()[name]; square && shape[0] != shape[1] {
				continue
			}
			for _, p := range noModuli() {
				// Of zeros there is no inverse, and ones are no combination of them.
				for _, entries := range [][]api.Int{nums(0), nums(3, 1, 2, 5)} {
					a := check.Filled(shape[0], shape[1], entries)
					got, e := call(a, p)
					holdRefusal(t, of(name, a, p), got, e, api.ErrPrime)
				}
			}
		}
	}
}

// R1: what is answered is sound, and its entries are least residues in least form; beside an error there is nothing.
func TestLeastResidues(t *testing.T) {
	for name, call := range takers() {
		for _, shape := range shapes() {
			for _, p := range []uint64{2, 5, greatest} {
				a := check.Filled(shape[0], shape[1], check.Integers())
				got, e := call(a, p)
				if e != api.OK {
					holdRefusal(t, of(name, a, p), got, e, e)
					continue
				}
				check.Same(t, of(name, a, p)+": is it sound", mat.Check(got), api.OK)
				if name != "Rank" {
					check.Mat(t, of(name, a, p)+": least residues", got, residuesOf(got, p))
				}
			}
		}
	}
}

// P12.2.
func TestReduce(t *testing.T) {
	long := plus(append(check.Mixed(40, 7), 0, 0)...)
	multiple := zint.Mul(long, plus(greatest))
	for _, c := range []struct {
		a, want api.Mat
		p       uint64
	}{
		{mx("0x0"), mx("0x0"), 2},
		{mx("0x3"), mx("0x3"), 3},
		{mx("3x0"), mx("3x0"), greatest},
		{mx("64x0"), mx("64x0"), 5},
		{mx("0x64"), mx("0x64"), 5},
		{mx("0 1 2 3 -1 -2 -3"), mx("0 1 0 1 1 0 1"), 2},
		{mx("0 4 5 6 -4 -5 -6"), mx("0 4 0 1 1 0 4"), 5},
		{mx("1 2; 3 4; 5 6"), mx("1 2; 0 1; 2 0"), 3},
		{mx("2147483646 2147483647 2147483648 -1 -2147483647"), mx("2147483646 0 1 2147483646 0"), greatest},
		{asRow(check.Zeros()), mx("0 0 0 0 0 0 0 0"), 7},
		{asRow([]api.Int{minus(1, 0), plus(7, 0), plus(0, 1), minus(0, 1), plus(top, top)}), mx("6 0 2 5 3"), 7},
		{asRow([]api.Int{multiple, zint.Add(multiple, num(5)), zint.Neg(multiple), zint.Sub(num(-5), multiple)}), mx("0 5 0 2147483642"), greatest},
		{check.Filled(64, 64, nums(-1)), check.Filled(64, 64, nums(1)), 2},
		{check.Filled(64, 64, nums(-1, 5)), check.Filled(64, 64, nums(2147483646, 5)), greatest},
	} {
		got, e := modp.Reduce(c.a, c.p)
		hold(t, of("Reduce", c.a, c.p), got, e, c.want)
	}
}

// P12.3.
func TestDet(t *testing.T) {
	for _, c := range []struct {
		a    string
		p    uint64
		want uint64
	}{
		{"0x0", 2, 1}, {"0x0", greatest, 1}, {"0", 2, 0}, {"1", 2, 1}, {"2", 2, 0}, {"-3", 2, 1}, {"-1", 3, 2}, {"-1", greatest, 2147483646},
		{"0 1; 1 0", 2, 1}, {"0 1; 1 0", 3, 2}, {"0 1; 1 0", greatest, 2147483646}, {"1 2; 2 4", 7, 0}, {"3 1; 1 2", 5, 0}, {"3 1; 1 2", 7, 5}, {"0 3; 2 7", 11, 5},
		{"0 0 1; 1 0 0; 0 1 0", 5, 1}, {"0 0 1; 0 1 0; 1 0 0", 5, 4}, {"1 2 3; 4 5 6; 7 8 9", 5, 0}, {"1 2 3; 4 5 6; 7 8 10", 5, 2}, {"1 2 3; 4 5 6; 7 8 10", 3, 0},
		{"2147483646 0; 0 2147483646", greatest, 1}, {"2147483646 2147483645; 2147483645 2147483646", greatest, 2147483644},
	} {
		d, e := modp.Det(mx(c.a), c.p)
		check.Same(t, of("Det", mx(c.a), c.p), d, c.want)
		check.Same(t, of("Det", mx(c.a), c.p), e, api.OK)
	}
}

// P12.3.
func TestRank(t *testing.T) {
	for _, c := range []struct {
		a    string
		p    uint64
		want int
	}{
		{"0x0", 2, 0}, {"0x3", 2, 0}, {"3x0", greatest, 0}, {"0", 3, 0}, {"3", 3, 0}, {"4", 3, 1}, {"0 0; 0 0", 2, 0}, {"0 0 0 2147483647", greatest, 0}, {"0 0 0 2147483648", greatest, 1},
		{"2 0; 0 3", 5, 2}, {"2 0; 0 3", 2, 1}, {"2 0; 0 3", 3, 1}, {"6 0; 0 12", 2, 0}, {"1 2; 3 4", 2, 1}, {"1 2; 3 4", 3, 2}, {"1 1; 1 1; 1 1", 7, 1}, {"1 2 3; 4 5 6; 7 8 10", 3, 2}, {"1 2 3; 4 5 6; 7 8 9", 7, 2}, {"1; 2; 3", 3, 1},
	} {
		rank, e := modp.Rank(mx(c.a), c.p)
		check.Same(t, of("Rank", mx(c.a), c.p), rank, c.want)
		check.Same(t, of("Rank", mx(c.a), c.p), e, api.OK)
	}
}

// P12.4.
func TestEchelon(t *testing.T) {
	for _, c := range []struct {
		a    string
		p    uint64
		want string
	}{
		{"0x0", 2, "0x0"}, {"0x3", 2, "0x3"}, {"3x0", 3, "3x0"}, {"64x0", 3, "64x0"}, {"0x64", greatest, "0x64"}, {"0", 5, "0"}, {"3", 5, "1"}, {"-5", 5, "0"}, {"-1", greatest, "1"},
		{"0 0; 0 0", 2, "0 0; 0 0"}, {"2 4 6", 7, "1 2 3"}, {"0 3 1", 7, "0 1 5"}, {"1; 2; 3", 5, "1; 0; 0"}, {"0; 2; 0", 5, "1; 0; 0"},
		{"1 1; 1 0", 2, "1 0; 0 1"}, {"0 1; 1 1; 1 0", 2, "1 0; 0 1; 0 0"}, {"1 2 3; 4 5 6; 7 8 9", 11, "1 0 10; 0 1 2; 0 0 0"}, {"1 2 3; 4 5 6; 7 8 9", 3, "1 2 0; 0 0 0; 0 0 0"},
		{"0 0 2 4; 0 0 1 3", 5, "0 0 1 0; 0 0 0 1"}, {"0 2 0 4; 0 0 0 3; 0 1 0 0", 5, "0 1 0 0; 0 0 0 1; 0 0 0 0"}, {"2 1073741824", greatest, "1 536870912"},
	} {
		got, e := modp.Echelon(mx(c.a), c.p)
		hold(t, of("Echelon", mx(c.a), c.p), got, e, mx(c.want))
	}
}

// P12.4.
func TestKernel(t *testing.T) {
	for _, c := range []struct {
		a    string
		p    uint64
		want string
	}{
		{"0x0", 2, "0x0"}, {"0x3", 2, "0x0"}, {"0x64", 2, "0x0"}, {"1x0", 2, "1"}, {"3x0", greatest, "1 0 0; 0 1 0; 0 0 1"}, {"0", 3, "1"}, {"3 6", 3, "1"}, {"1", 3, "0x1"}, {"5 0", 3, "0x1"},
		{"0 0; 0 0", 2, "1 0; 0 1"}, {"1; 1", 2, "1 1"}, {"1; 1", 3, "1 2"}, {"1; 1", greatest, "1 2147483646"}, {"0; 1", 5, "1 0"}, {"1; 0", 5, "0 1"}, {"1; 2; 3", 5, "1 0 3; 0 1 1"},
		{"1 0; 0 1; 1 1", 2, "1 1 1"}, {"1 2 3; 4 5 6; 7 8 9", 11, "1 9 1"}, {"1 2 3; 4 5 6; 7 8 9", 3, "1 0 2; 0 1 2"}, {"2 0; 0 3", 5, "0x2"}, {"2 0; 0 3", 3, "0 1"}, {"2 0; 0 3", 2, "1 0"},
	} {
		got, e := modp.Kernel(mx(c.a), c.p)
		hold(t, of("Kernel", mx(c.a), c.p), got, e, mx(c.want))
	}
	unit, _ := mat.Unit(64)
	for _, a := range []api.Mat{mx("64x0"), check.Filled(64, 1, nums(0)), check.Filled(64, 64, nums(7, -14))} {
		got, e := modp.Kernel(a, 7)
		hold(t, of("Kernel", a, 7), got, e, unit)
	}
	got, e := modp.Kernel(unit, greatest)
	hold(t, "Kernel of a unit matrix", got, e, mx("0x64"))
}

// P12.5.
func TestInverse(t *testing.T) {
	for _, c := range []struct {
		a    string
		p    uint64
		want string
	}{
		{"0x0", 2, "0x0"}, {"0x0", greatest, "0x0"}, {"1", 2, "1"}, {"-3", 2, "1"}, {"2", 3, "2"}, {"3", 7, "5"}, {"2", greatest, "1073741824"}, {"-1", greatest, "2147483646"},
		{"0 1; 1 0", 2, "0 1; 1 0"}, {"1 1; 0 1", 2, "1 1; 0 1"}, {"1 2; 3 4", 5, "3 1; 4 2"}, {"1 2; 3 4", greatest, "2147483645 1; 1073741825 1073741823"}, {"0 2; 3 0", 7, "0 5; 4 0"}, {"0 0 1; 1 0 0; 0 1 0", 3, "0 1 0; 0 0 1; 1 0 0"},
	} {
		got, e := modp.Inverse(mx(c.a), c.p)
		hold(t, of("Inverse", mx(c.a), c.p), got, e, mx(c.want))
	}
	for _, c := range []struct {
		a string
		p uint64
	}{
		{"0", 2}, {"2", 2}, {"0", greatest}, {"2147483647", greatest}, {"-14", 7}, {"1 2; 3 4", 2}, {"1 2; 2 4", 7}, {"1 2 3; 4 5 6; 7 8 10", 3}, {"0 0; 0 0", 5}, {"0 1; 0 1", 5}, {"1 1; 0 0", 5},
	} {
		got, e := modp.Inverse(mx(c.a), c.p)
		holdRefusal(t, of("Inverse", mx(c.a), c.p), got, e, api.ErrNone)
	}
}

// P12.6.
func TestSolve(t *testing.T) {
	for _, c := range []struct {
		a, b string
		p    uint64
		want string
	}{
		{"0x0", "", 2, ""}, {"0x1", "0", 2, ""}, {"0x3", "2 -4 0", 2, ""}, {"1x0", "", 2, "0"}, {"3x0", "", greatest, "0 0 0"}, {"0", "0", 3, "0"}, {"0", "-9", 3, "0"}, {"1", "-1", greatest, "2147483646"},
		{"2", "3", 5, "4"}, {"3", "1", greatest, "1431655765"}, {"1 2; 3 4", "0 0", 5, "0 0"}, {"1 2; 3 4", "0 1", 5, "4 2"}, {"1; 1", "1", 2, "0 1"}, {"1; 0", "3", 5, "3 0"}, {"1; 2; 3", "2", 5, "0 0 4"},
		{"0; 1", "3", 5, "0 3"}, {"1 2; 2 4; 3 6", "4 8", 7, "0 0 6"}, {"1 0; 0 0; 0 1", "5 6", 7, "5 0 6"}, {"1 0 1; 0 1 1", "1 1 0", 2, "1 1"}, {"1 0 1; 0 1 1", "2147483646 1 0", greatest, "2147483646 1"},
	} {
		got, e := modp.Solve(mx(c.a), row(c.b), c.p)
		holdRow(t, of("Solve of "+c.b, mx(c.a), c.p), got, e, row(c.want))
	}
	for _, c := range []struct {
		a, b string
		p    uint64
	}{
		{"0x1", "1", 2}, {"0x3", "0 0 -1", 2}, {"0", "1", 2}, {"2147483647", "1", greatest}, {"1 2; 3 6", "1 1", 7}, {"1 2 3", "1 2 4", 5}, {"1 0 1; 0 1 1", "1 1 1", 2}, {"1 2; 3 4", "1 1", 2}, {"0 1; 0 1", "1 0", 5}, {"1 0; 1 0", "0 1", 5},
	} {
		got, e := modp.Solve(mx(c.a), row(c.b), c.p)
		holdRefusal(t, of("Solve of "+c.b, mx(c.a), c.p), asRow(got), e, api.ErrNone)
	}
}

// P12.6: numbers of any kind in b.
func TestSolveOfAnyNumbers(t *testing.T) {
	for _, p := range moduli() {
		for _, n := range check.Integers() {
			want := residue(n, p)
			got, e := modp.Solve(mx("1"), []api.Int{n}, p)
			holdRow(t, of(fmt.Sprintf("Solve of %v", n), mx("1"), p), got, e, []api.Int{want})
			got, e = modp.Solve(mx("0x1"), []api.Int{n}, p)
			if zint.Sign(want) == 0 {
				holdRow(t, of(fmt.Sprintf("Solve of %v", n), mx("0x1"), p), got, e, nil)
			} else {
				holdRefusal(t, of(fmt.Sprintf("Solve of %v", n), mx("0x1"), p), asRow(got), e, api.ErrNone)
			}
		}
	}
}
