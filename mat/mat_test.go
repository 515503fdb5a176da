package mat_test

import (
	"fmt"
	"math"
	"testing"

	"trellis/api"
	"trellis/check"
	"trellis/mat"
	"trellis/zint"
)

const (
	top  = check.Top
	high = check.High
)

type list = []uint64

// The integers, rows and matrices of the tests.
var (
	num, nums   = check.Num, check.Nums
	plus, minus = check.Plus, check.Minus
	row, mx     = check.Row, check.Matrix
)

// of is the matrix of these entries, just as it is handed in, sound or not.
func of(rows, cols int, at ...api.Int) api.Mat {
	return api.Mat{Rows: rows, Cols: cols, At: at}
}

// full is the matrix with n everywhere.
func full(rows, cols int, n api.Int) api.Mat {
	return check.Filled(rows, cols, []api.Int{n})
}

// hold asks for a matrix without an error.
func hold(t *testing.T, call string, got api.Mat, e api.Errno, want api.Mat) {
	t.Helper()
	check.Same(t, call, e, api.OK)
	check.Mat(t, call, got, want)
}

// holdRefusal asks for an error with nothing beside it.
func holdRefusal(t *testing.T, call string, got api.Mat, e, want api.Errno) {
	t.Helper()
	check.Same(t, call, e, want)
	check.Mat(t, call+", beside the error", got, api.Mat{})
}

// soundOnes have shapes of all kinds, and entries in all forms.
func soundOnes() []api.Mat {
	return []api.Mat{
		{}, of(0, 0, nums()...), of(0, 3), of(3, 0), of(0, 64), of(64, 0), mx("5"), mx("1 2"), mx("1; 2"), mx("1 2; 3 4"), mx("1 2 3; 4 5 6"),
		of(1, 3, minus(0, 0), plus(7, 0), minus()), full(64, 64, num(-1)), full(1, 64, num(2)), full(64, 1, plus(0, 1)),
	}
}

// P9.1: what is sound, and what is not.
func TestCheck(t *testing.T) {
	for _, a := range soundOnes() {
		check.Same(t, fmt.Sprintf("Check of %d by %d with %d entries", a.Rows, a.Cols, len(a.At)), mat.Check(a), api.OK)
	}
	for _, a := range check.Unsound() {
		check.Same(t, fmt.Sprintf("Check of %d by %d with %d entries", a.Rows, a.Cols, len(a.At)), mat.Check(a), api.ErrMat)
	}
	for rows := -2; rows <= 66; rows++ {
		for cols := -2; cols <= 66; cols++ {
			for entries := max(rows*cols-1, 0); entries <= max(rows*cols, 0)+1; entries++ {
				want := api.ErrMat
				if 0 <= rows && rows <= 64 && 0 <= cols && cols <= 64 && entries == rows*cols {
					want = api.OK
				}
				got := mat.Check(api.Mat{Rows: rows, Cols: cols, At: make([]api.Int, entries)})
				check.Same(t, fmt.Sprintf("Check of %d by %d with %d entries", rows, cols, entries), got, want)
			}
		}
	}
}

// asRow is the matrix of one row, or the one without rows and columns where there is nothing.
func asRow(at ...api.Int) api.Mat {
	if len(at) == 0 {
		return api.Mat{}
	}
	return of(1, len(at), at...)
}

// takers are all calls that take a matrix, with a at each place where one stands, and with other faults beside it where there may be any.
// What they answer is put into a matrix where it is none.
func takers() map[string]func(a api.Mat) (api.Mat, api.Errno) {
	all := map[string]func(a api.Mat) (api.Mat, api.Errno){
		"Least": mat.Least,
		"Turn":  mat.Turn,
		"Scale": func(a api.Mat) (api.Mat, api.Errno) { return mat.Scale(minus(0, 3, 0), a) },
		"Trace": func(a api.Mat) (api.Mat, api.Errno) {
			sum, e := mat.Trace(a)
			if sum.Neg || len(sum.Mag) > 0 {
				return asRow(sum), e
			}
			return api.Mat{}, e
		},
	}
	for _, n := range []int{math.MinInt, -1, 0, 1, 257, math.MaxInt} {
		all[fmt.Sprintf("Pow to %d", n)] = func(a api.Mat) (api.Mat, api.Errno) { return mat.Pow(a, n) }
	}
	for _, x := range [][]api.Int{nil, nums(1), nums(1, 2), make([]api.Int, 65)} {
		all[fmt.Sprintf("VecMul by %v", x)] = func(a api.Mat) (api.Mat, api.Errno) {
			y, e := mat.VecMul(x, a)
			return asRow(y...), e
		}
	}
	for _, places := range [][]int{nil, {0}, {-1}, {math.MaxInt}, {64}, make([]int, 65)} {
		all[fmt.Sprintf("Pick of rows %v", places)] = func(a api.Mat) (api.Mat, api.Errno) { return mat.Pick(a, places, nil) }
		all[fmt.Sprintf("Pick of columns %v", places)] = func(a api.Mat) (api.Mat, api.Errno) { return mat.Pick(a, nil, places) }
		all[fmt.Sprintf("Pick of both %v", places)] = func(a api.Mat) (api.Mat, api.Errno) { return mat.Pick(a, places, places) }
	}
	for name, call := range callsOfTwo() {
		for _, b := range soundOnes() {
			all[fmt.Sprintf("%s ahead of %d by %d", name, b.Rows, b.Cols)] = func(a api.Mat) (api.Mat, api.Errno) { return call(a, b) }
			all[fmt.Sprintf("%s behind %d by %d", name, b.Rows, b.Cols)] = func(a api.Mat) (api.Mat, api.Errno) { return call(b, a) }
		}
		all[name+" with itself"] = func(a api.Mat) (api.Mat, api.Errno) { return call(a, a) }
	}
	for name, call := range callsOfLists() {
		all[name+" alone"] = func(a api.Mat) (api.Mat, api.Errno) { return call(a) }
		all[name+" as the first"] = func(a api.Mat) (api.Mat, api.Errno) { return call(a, mx("1 2"), mx("1; 2"), full(64, 64, num(1))) }
		all[name+" in between"] = func(a api.Mat) (api.Mat, api.Errno) { return call(mx("1 2"), mx("1; 2"), a, full(64, 64, num(1))) }
		all[name+" as the last"] = func(a api.Mat) (api.Mat, api.Errno) { return call(full(64, 64, num(1)), full(64, 64, num(1)), a) }
	}
	return all
}

// callsOfTwo are the calls that take two matrices. Equal's true is put into a matrix.
func callsOfTwo() map[string]func(a, b api.Mat) (api.Mat, api.Errno) {
	return map[string]func(a, b api.Mat) (api.Mat, api.Errno){
		"Add": mat.Add, "Sub": mat.Sub, "Mul": mat.Mul, "Kron": mat.Kron,
		"Equal": func(a, b api.Mat) (api.Mat, api.Errno) {
			same, e := mat.Equal(a, b)
			if same {
				return asRow(num(1)), e
			}
			return api.Mat{}, e
		},
	}
}

// callsOfLists are the calls that take any number of matrices.
func callsOfLists() map[string]func(list ...api.Mat) (api.Mat, api.Errno) {
	return map[string]func(list ...api.Mat) (api.Mat, api.Errno){"Stack": mat.Stack, "Beside": mat.Beside}
}

// P9.1: every call that takes a matrix refuses one that is not sound, whatever else is wrong.
func TestUnsound(t *testing.T) {
	for name, call := range takers() {
		for _, a := range check.Unsound() {
			got, e := call(a)
			holdRefusal(t, fmt.Sprintf("%s, %d by %d with %d entries", name, a.Rows, a.Cols, len(a.At)), got, e, api.ErrMat)
		}
	}
}

// R1: a matrix that is answered is sound, and its entries are in least form.
func TestSoundAnswers(t *testing.T) {
	for name, call := range takers() {
		for _, a := range soundOnes() {
			got, e := call(a)
			if e != api.OK {
				holdRefusal(t, fmt.Sprintf("%s, %d by %d", name, a.Rows, a.Cols), got, e, e)
				continue
			}
			check.Same(t, fmt.Sprintf("%s, %d by %d: is it sound", name, a.Rows, a.Cols), mat.Check(got), api.OK)
			check.Ints(t, fmt.Sprintf("%s, %d by %d: in least form", name, a.Rows, a.Cols), got.At, inLeastForm(got.At))
		}
	}
}

// inLeastForm is the list with each integer in least form.
func inLeastForm(list []api.Int) []api.Int {
	var all []api.Int
	for _, n := range list {
		all = append(all, zint.Least(n))
	}
	return all
}

// P9.2.
func TestMake(t *testing.T) {
	for _, c := range []struct {
		rows, cols int
		at         []api.Int
		want       api.Mat
	}{
		{2, 1, nums(3, -4), mx("3; -4")},
		{1, 2, nums(3, -4), mx("3 -4")},
		{2, 3, nums(1, 2, 3, 4, 5, 6), mx("1 2 3; 4 5 6")},
		{0, 0, nil, mx("0x0")},
		{0, 0, nums(), mx("0x0")},
		{0, 3, nil, mx("0x3")},
		{3, 0, nums(), mx("3x0")},
		{64, 0, nil, mx("64x0")},
		{0, 64, nil, mx("0x64")},
		{1, 4, []api.Int{minus(0, 0), plus(0), minus(5, 0), plus(0, 7, 0)}, of(1, 4, num(0), num(0), num(-5), plus(0, 7))},
		{64, 64, full(64, 64, minus(9, 0)).At, full(64, 64, num(-9))},
	} {
		got, e := mat.Make(c.rows, c.cols, c.at)
		hold(t, fmt.Sprintf("Make(%d, %d, %v)", c.rows, c.cols, c.at), got, e, c.want)
	}
}

// P9.2: the shape is looked at ahead of the entries.
func TestMakeFaults(t *testing.T) {
	for _, c := range []struct {
		rows, cols, entries int
		want                api.Errno
	}{
		{-1, 0, 0, api.ErrArg}, {0, -1, 0, api.ErrArg}, {-1, -1, 1, api.ErrArg}, {-1, 65, 0, api.ErrArg}, {65, 0, 0, api.ErrArg}, {0, 65, 0, api.ErrArg},
		{65, 0, 1, api.ErrArg}, {65, 1, 65, api.ErrArg}, {1, 65, 65, api.ErrArg}, {65, 65, 1, api.ErrArg}, {-1, 1, 3, api.ErrArg},
		{math.MaxInt, math.MaxInt, 1, api.ErrArg}, {math.MinInt, math.MinInt, 0, api.ErrArg}, {1 << 32, 1 << 32, 0, api.ErrArg}, {math.MinInt, 1, 0, api.ErrArg},
		{2, 2, 1, api.ErrFit}, {2, 2, 3, api.ErrFit}, {2, 2, 5, api.ErrFit}, {2, 2, 0, api.ErrFit}, {0, 0, 1, api.ErrFit}, {0, 3, 3, api.ErrFit}, {3, 0, 3, api.ErrFit}, {64, 64, 4095, api.ErrFit},
	} {
		got, e := mat.Make(c.rows, c.cols, make([]api.Int, c.entries))
		holdRefusal(t, fmt.Sprintf("Make(%d, %d) of %d entries", c.rows, c.cols, c.entries), got, e, c.want)
	}
}

// P9.2.
func TestLeast(t *testing.T) {
	for _, c := range []struct{ a, want api.Mat }{
		{mx("1 -2; 0 4"), mx("1 -2; 0 4")},
		{of(1, 2, minus(0, 0), minus(5, 0)), mx("0 -5")},
		{of(2, 2, minus(), plus(0), plus(top, top, 0, 0), minus(0, 1)), of(2, 2, num(0), num(0), plus(top, top), minus(0, 1))},
		{mx("0x0"), mx("0x0")},
		{mx("0x3"), mx("0x3")},
		{mx("3x0"), mx("3x0")},
		{full(64, 64, plus(2, 0)), full(64, 64, num(2))},
	} {
		got, e := mat.Least(c.a)
		hold(t, fmt.Sprintf("Least(%v)", c.a), got, e, c.want)
	}
}

// P9.2.
func TestZero(t *testing.T) {
	for rows := -1; rows <= 65; rows++ {
		for cols := -1; cols <= 65; cols++ {
			got, e := mat.Zero(rows, cols)
			call := fmt.Sprintf("Zero(%d, %d)", rows, cols)
			if min(rows, cols) < 0 || max(rows, cols) > 64 {
				holdRefusal(t, call, got, e, api.ErrArg)
			} else {
				hold(t, call, got, e, full(rows, cols, num(0)))
			}
		}
	}
	for _, n := range []int{math.MinInt, math.MaxInt, -64, 1 << 32} {
		for _, m := range []int{n, 0, 1, 64, -1} {
			got, e := mat.Zero(n, m)
			holdRefusal(t, fmt.Sprintf("Zero(%d, %d)", n, m), got, e, api.ErrArg)
			got, e = mat.Zero(m, n)
			holdRefusal(t, fmt.Sprintf("Zero(%d, %d)", m, n), got, e, api.ErrArg)
		}
	}
}

// P9.2.
func TestUnit(t *testing.T) {
	for n, want := range []string{"0x0", "1", "1 0; 0 1", "1 0 0; 0 1 0; 0 0 1"} {
		got, e := mat.Unit(n)
		hold(t, fmt.Sprintf("Unit(%d)", n), got, e, mx(want))
	}
	want := full(64, 64, num(0))
	for i := range 64 {
		want.At[65*i] = num(1)
	}
	got, e := mat.Unit(64)
	hold(t, "Unit(64)", got, e, want)
	for _, n := range []int{-1, 65, math.MinInt, math.MaxInt, 1 << 32} {
		got, e := mat.Unit(n)
		holdRefusal(t, fmt.Sprintf("Unit(%d)", n), got, e, api.ErrArg)
	}
}

// P9.2.
func TestDiag(t *testing.T) {
	for _, c := range []struct {
		rows, cols int
		list       []api.Int
		want       api.Mat
	}{
		{2, 3, nums(5), mx("5 0 0; 0 0 0")},
		{2, 3, nums(5, -6), mx("5 0 0; 0 -6 0")},
		{3, 2, nums(5, -6), mx("5 0; 0 -6; 0 0")},
		{3, 3, nums(0, 7), mx("0 0 0; 0 7 0; 0 0 0")},
		{2, 2, nil, mx("0 0; 0 0")},
		{0, 0, nil, mx("0x0")},
		{0, 3, nums(), mx("0x3")},
		{3, 0, nil, mx("3x0")},
		{1, 64, nums(2), check.Filled(1, 64, append(nums(2), make([]api.Int, 63)...))},
		{3, 3, []api.Int{minus(0, 0), minus(4, 0), plus(0, 1, 0)}, of(3, 3, num(0), num(0), num(0), num(0), num(-4), num(0), num(0), num(0), plus(0, 1))},
	} {
		got, e := mat.Diag(c.rows, c.cols, c.list)
		hold(t, fmt.Sprintf("Diag(%d, %d, %v)", c.rows, c.cols, c.list), got, e, c.want)
	}
	got, e := mat.Diag(64, 64, full(1, 64, num(1)).At)
	unit, _ := mat.Unit(64)
	hold(t, "Diag(64, 64) of ones", got, e, unit)
}

// P9.2: the shape is looked at ahead of the list.
func TestDiagFaults(t *testing.T) {
	for _, c := range []struct {
		rows, cols, entries int
		want                api.Errno
	}{
		{-1, 0, 0, api.ErrArg}, {0, -1, 0, api.ErrArg}, {65, 1, 1, api.ErrArg}, {1, 65, 1, api.ErrArg}, {65, 3, 4, api.ErrArg}, {-1, 3, 4, api.ErrArg}, {-1, 65, 0, api.ErrArg},
		{math.MaxInt, math.MaxInt, 1, api.ErrArg}, {math.MinInt, math.MinInt, 0, api.ErrArg}, {65, 65, 65, api.ErrArg},
		{2, 3, 3, api.ErrFit}, {3, 2, 3, api.ErrFit}, {0, 3, 1, api.ErrFit}, {3, 0, 1, api.ErrFit}, {0, 0, 1, api.ErrFit}, {2, 2, 4, api.ErrFit}, {64, 64, 65, api.ErrFit},
	} {
		got, e := mat.Diag(c.rows, c.cols, make([]api.Int, c.entries))
		holdRefusal(t, fmt.Sprintf("Diag(%d, %d) of %d numbers", c.rows, c.cols, c.entries), got, e, c.want)
	}
}

// P9.2: by their numbers, whatever their forms.
func TestEqual(t *testing.T) {
	last := full(64, 64, num(5))
	last.At[4095] = num(6)
	for _, c := range []struct {
		a, b api.Mat
		want bool
	}{
		{mx("1 2; 3 4"), mx("1 2; 3 4"), true},
		{mx("1 2; 3 4"), mx("1 2; 3 5"), false},
		{mx("1 2; 3 4"), mx("2 2; 3 4"), false},
		{mx("1 2; 3 4"), mx("1 2; -3 4"), false},
		{mx("1 2; 3 4"), mx("1 2 3 4"), false},
		{mx("1 2 3 4"), mx("1; 2; 3; 4"), false},
		{mx("1 2 3; 4 5 6"), mx("1 2; 3 4; 5 6"), false},
		{mx("1 2"), mx("1 2; 3 4"), false},
		{mx("0x3"), mx("0x2"), false},
		{mx("0x3"), mx("3x0"), false},
		{mx("2x0"), mx("3x0"), false},
		{mx("0x0"), mx("0x1"), false},
		{mx("0x0"), mx("1x0"), false},
		{mx("0x3"), of(0, 3, nums()...), true},
		{mx("3x0"), mx("3x0"), true},
		{mx("0x0"), api.Mat{}, true},
		{mx("0"), mx("0x0"), false},
		{mx("1 0"), of(1, 2, plus(1, 0), minus()), true},
		{of(1, 3, minus(0), plus(0, 0, 0), minus(7, 0)), mx("0 0 -7"), true},
		{of(1, 1, plus(1, 1)), mx("1"), false},
		{of(1, 1, plus(top, 1)), of(1, 1, plus(top, 1, 0)), true},
		{of(1, 1, plus(top, 1)), of(1, 1, minus(top, 1)), false},
		{full(64, 64, num(5)), full(64, 64, plus(5, 0)), true},
		{full(64, 64, num(5)), last, false},
	} {
		for range 2 {
			got, e := mat.Equal(c.a, c.b)
			check.Same(t, fmt.Sprintf("Equal(%v, %v)", c.a, c.b), got, c.want)
			check.Same(t, fmt.Sprintf("Equal(%v, %v)", c.a, c.b), e, api.OK)
			c.a, c.b = c.b, c.a
		}
	}
}
