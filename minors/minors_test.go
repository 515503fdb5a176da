package minors_test

import (
	"fmt"
	"math"
	"slices"
	"testing"

	"trellis/api"
	"trellis/check"
	"trellis/made"
	"trellis/mat"
	"trellis/minors"
)

// The integers, rows and matrices of the tests.
var (
	num, nums   = check.Num, check.Nums
	plus, minus = check.Plus, check.Minus
	mx          = check.Matrix
	first       = made.First
	product     = made.Product
)

// of names a call in a test's report.
func of(name string, a api.Mat, others ...any) string {
	if len(a.At) > 30 {
		return fmt.Sprintf("%s of %d by %d %v", name, a.Rows, a.Cols, others)
	}
	return fmt.Sprintf("%s(%v) %v", name, a, others)
}

// holdMinor, and those that follow, ask for an answer.
func holdMinor(t *testing.T, a api.Mat, rows, cols []int, want api.Int) {
	t.Helper()
	got, e := minors.Minor(a, rows, cols)
	check.Same(t, of("Minor", a, rows, cols), e, api.OK)
	check.Int(t, of("Minor", a, rows, cols), got, want)
}

func holdGcd(t *testing.T, a api.Mat, k int, want api.Int) {
	t.Helper()
	got, e := minors.Gcd(a, k)
	check.Same(t, of("Gcd", a, k), e, api.OK)
	check.Int(t, of("Gcd", a, k), got, want)
}

func holdCompound(t *testing.T, a api.Mat, k int, want api.Mat) {
	t.Helper()
	got, e := minors.Compound(a, k)
	check.Same(t, of("Compound", a, k), e, api.OK)
	check.Mat(t, of("Compound", a, k), got, want)
}

func holdAdjugate(t *testing.T, a, want api.Mat) {
	t.Helper()
	got, e := minors.Adjugate(a)
	check.Same(t, of("Adjugate", a), e, api.OK)
	check.Mat(t, of("Adjugate", a), got, want)
}

func holdInverse(t *testing.T, a, want api.Mat, least api.Int) {
	t.Helper()
	got, d, e := minors.Inverse(a)
	check.Same(t, of("Inverse", a), e, api.OK)
	check.Mat(t, of("Inverse", a), got, want)
	check.Int(t, of("Inverse's number", a), d, least)
}

// taker is a call on a matrix and a number, what it answers told as a matrix; an integer is told as one of one row and column, but 0 as nothing.
type taker func(a api.Mat, k int) (api.Mat, api.Errno)

// alone is the matrix of one integer, or nothing.
func alone(n api.Int) api.Mat {
	if !n.Neg && len(n.Mag) == 0 {
		return api.Mat{}
	}
	return api.Mat{Rows: 1, Cols: 1, At: []api.Int{n}}
}

// sized are the calls that take a number of rows and columns.
func sized() map[string]taker {
	return map[string]taker{
		"Compound": minors.Compound,
		"Gcd": func(a api.Mat, k int) (api.Mat, api.Errno) {
			g, e := minors.Gcd(a, k)
			return alone(g), e
		},
	}
}

// squareOnly are the calls that refuse a matrix that is not square.
func squareOnly() map[string]taker {
	return map[string]taker{
		"Adjugate": func(a api.Mat, k int) (api.Mat, api.Errno) { return minors.Adjugate(a) },
		"Inverse": func(a api.Mat, k int) (api.Mat, api.Errno) {
			n, d, e := minors.Inverse(a)
			// Two results are told one beside the other, but nothing beside nothing as nothing.
			if n.Rows == 0 && n.Cols == 0 {
				return alone(d), e
			}
			return api.Mat{Rows: 1, Cols: len(n.At) + 1, At: append(n.At, d)}, e
		},
	}
}

// picker is Minor at lists that do not hang on the number.
func picker(rows, cols []int) taker {
	return func(a api.Mat, k int) (api.Mat, api.Errno) {
		d, e := minors.Minor(a, rows, cols)
		return alone(d), e
	}
}

// takers are all calls on a matrix.
func takers() map[string]taker {
	all := map[string]taker{
		"Minor at nothing":               picker(nil, nil),
		"Minor at the first place":       picker(first(1), first(1)),
		"Minor at lists that do not fit": picker(first(1), nil),
		"Minor at no places":             picker([]int{-1}, []int{math.MaxInt}),
		"Minor at long lists":            picker(make([]int, 65), make([]int, 65)),
	}
	for _, some := range []map[string]taker{sized(), squareOnly()} {
		for name, call := range some {
			all[name] = call
		}
	}
	return all
}

// holdRefusal asks for an error with nothing beside it.
func holdRefusal(t *testing.T, call string, got api.Mat, e, want api.Errno) {
	t.Helper()
	check.Same(t, call, e, want)
	check.Mat(t, call+", beside the error", got, api.Mat{})
}

// holdNoMinor asks for an error of Minor.
func holdNoMinor(t *testing.T, a api.Mat, rows, cols []int, want api.Errno) {
	t.Helper()
	got, e := picker(rows, cols)(a, 0)
	holdRefusal(t, of("Minor", a, rows, cols), got, e, want)
}

// P14.2 to P14.6: a matrix that is not sound is told first, whatever else is wrong.
func TestUnsound(t *testing.T) {
	for name, call := range takers() {
		for _, a := range check.Unsound() {
			for _, k := range []int{0, 1, 2, -1, 65, math.MinInt, math.MaxInt} {
				got, e := call(a, k)
				holdRefusal(t, of(name, a, k), got, e, api.ErrMat)
			}
		}
	}
}

// sizes are numbers of rows, or of columns.
func sizes() []int {
	return []int{0, 1, 2, 3, 5, 63, 64}
}

// P14.5 and P14.6 refuse each shape that is not square, with 0 in all places too.
func TestNotSquare(t *testing.T) {
	for _, rows := range sizes() {
		for _, cols := range sizes() {
			for _, entries := range [][]api.Int{nums(0), nums(1, 0, -2)} {
				a := check.Filled(rows, cols, entries)
				for name, call := range squareOnly() {
					if rows != cols {
						got, e := call(a, 0)
						holdRefusal(t, of(name, a), got, e, api.ErrFit)
					}
				}
			}
		}
	}
}

// P14.3 and P14.4 refuse numbers of rows and columns that the matrix does not have, also where there are too many choices of the others.
func TestSizesOutside(t *testing.T) {
	for _, rows := range sizes() {
		for _, cols := range sizes() {
			a := check.Filled(rows, cols, nums(1, 0, -2))
			least := min(rows, cols)
			for _, k := range []int{-1, -2, -64, math.MinInt, math.MinInt + 1, least + 1, least + 2, max(rows, cols) + 1, 65, 1 << 32, math.MaxInt} {
				for name, call := range sized() {
					got, e := call(a, k)
					holdRefusal(t, of(name, a, k), got, e, api.ErrArg)
				}
			}
		}
	}
}

// choices is how many choices there are of k out of n, by the sum of those with the last place and those without it; above 2^62 it is told as 2^62.
func choices(n, k int) int {
	table := make([][]int, n+1)
	for i := range table {
		table[i] = make([]int, k+2)
		table[i][0] = 1
		for j := 1; j <= k && i > 0; j++ {
			table[i][j] = min(table[i-1][j-1]+table[i-1][j], 1<<62)
		}
	}
	return table[n][k]
}

// ones is the matrix of this shape with 1 on its diagonal: its minors are 1, where the rows are the columns, and else 0.
func ones(rows, cols int) api.Mat {
	a, _ := mat.Diag(rows, cols, check.Filled(1, min(rows, cols), nums(1)).At)
	return a
}

// onesAtSame is the compound matrix of ones.
func onesAtSame(rows, cols, k int) api.Mat {
	all := api.Mat{Rows: choices(rows, k), Cols: choices(cols, k)}
	for _, ofRows := range made.Choices(first(rows), k) {
		for _, ofCols := range made.Choices(first(cols), k) {
			entry := num(0)
			if slices.Equal(ofRows, ofCols) {
				entry = num(1)
			}
			all.At = append(all.At, entry)
		}
	}
	return all
}

// telling are numbers of rows and columns at which there are just as many choices as may be, just more, or many more.
func telling() []int {
	return []int{0, 1, 2, 3, 7, 8, 9, 10, 11, 12, 13, 14, 15, 16, 19, 20, 29, 30, 31, 33, 45, 62, 63, 64}
}

// P14.3: too many minors are refused, be their number ever so great; as many as may be are looked at.
func TestTooManyMinors(t *testing.T) {
	for _, rows := range telling() {
		for _, cols := range telling() {
			a := ones(rows, cols)
			for k := range min(rows, cols) + 1 {
				ofRows, ofCols := choices(rows, k), choices(cols, k)
				got, e := sized()["Gcd"](a, k)
				if ofRows > api.MaxMinors/ofCols {
					holdRefusal(t, of("Gcd", a, k), got, e, api.ErrLarge)
				} else {
					check.Same(t, of("Gcd", a, k), e, api.OK)
					check.Mat(t, of("Gcd", a, k), got, mx("1"))
				}
			}
		}
	}
}

// P14.4: too many choices of rows, or of columns, are refused.
func TestTooLargeCompound(t *testing.T) {
	telling := []int{0, 1, 2, 7, 8, 9, 11, 12, 32, 63, 64}
	for _, rows := range telling {
		for _, cols := range telling {
			a := ones(rows, cols)
			for k := range min(rows, cols) + 1 {
				if max(choices(rows, k), choices(cols, k)) > api.MaxDim {
					got, e := minors.Compound(a, k)
					holdRefusal(t, of("Compound", a, k), got, e, api.ErrLarge)
				} else {
					holdCompound(t, a, k, onesAtSame(rows, cols, k))
				}
			}
		}
	}
}

// with is a list of so many zeros, and these places behind them.
func with(zeros int, places ...int) []int {
	return append(make([]int, zeros), places...)
}

// P14.2: which of the errors of Minor comes first.
func TestErrorsOfMinor(t *testing.T) {
	a := mx("1 2 3; 4 5 6")
	for _, c := range []struct {
		rows, cols []int
		e          api.Errno
	}{
		{with(1), nil, api.ErrFit}, {nil, with(1), api.ErrFit}, {with(2), with(3), api.ErrFit}, {with(64), with(65), api.ErrFit}, {with(65), with(64), api.ErrFit}, {with(65), with(70), api.ErrFit},
		{[]int{9}, nil, api.ErrFit}, {[]int{-1}, []int{-1, 7}, api.ErrFit}, {with(65, -1), with(65), api.ErrFit},
		{[]int{2}, []int{0}, api.ErrArg}, {[]int{0}, []int{3}, api.ErrArg}, {[]int{-1}, []int{0}, api.ErrArg}, {[]int{0}, []int{-1}, api.ErrArg},
		{[]int{0, 2}, []int{0, 1}, api.ErrArg}, {[]int{0, 1}, []int{0, 3}, api.ErrArg}, {[]int{2, 0}, []int{0, 1}, api.ErrArg}, {[]int{0, 1}, []int{3, 0}, api.ErrArg}, {[]int{0, 0}, []int{1, 3}, api.ErrArg},
		{[]int{math.MinInt}, []int{0}, api.ErrArg}, {[]int{0}, []int{math.MinInt}, api.ErrArg}, {[]int{math.MaxInt}, []int{0}, api.ErrArg}, {[]int{0}, []int{math.MaxInt}, api.ErrArg},
		{[]int{1 << 32}, []int{0}, api.ErrArg}, {[]int{0}, []int{1 << 32}, api.ErrArg}, {[]int{64}, []int{64}, api.ErrArg},
		{with(64, 2), with(65), api.ErrArg}, {with(65), with(64, 3), api.ErrArg}, {with(64, -1), with(65), api.ErrArg}, {with(1000, 5), with(1000, 5), api.ErrArg},
		{with(65), with(65), api.ErrLarge}, {with(64, 1), with(64, 2), api.ErrLarge}, {with(1000), with(1000), api.ErrLarge},
	} {
		holdNoMinor(t, a, c.rows, c.cols, c.e)
	}
	for _, shape := range []string{"0x0", "0x3", "3x0"} {
		holdMinor(t, mx(shape), nil, nil, num(1))
		holdMinor(t, mx(shape), []int{}, []int{}, num(1))
		holdNoMinor(t, mx(shape), with(1), with(1), api.ErrArg)
		holdNoMinor(t, mx(shape), with(1), nil, api.ErrFit)
		holdNoMinor(t, mx(shape), with(65), with(65), api.ErrArg)
	}
}

// P14.2: up to MaxDim places, a matrix of few rows too; where one stands twice in a list, the minor is 0.
func TestMinorAtManyPlaces(t *testing.T) {
	a := mx("1 2 3; 4 5 6")
	for n := 3; n <= 64; n++ {
		rows, cols := make([]int, n), make([]int, n)
		for i := range n {
			rows[i], cols[i] = i%2, i%3
		}
		holdMinor(t, a, rows, cols, num(0))
	}
	large := ones(64, 64)
	order := first(64)
	holdMinor(t, large, order, order, num(1))
	order[3], order[60] = 60, 3
	holdMinor(t, large, order, first(64), num(-1))
	holdMinor(t, large, first(64), order, num(-1))
	holdMinor(t, large, order, order, num(1))
	order[60] = 60
	holdMinor(t, large, order, first(64), num(0))
	holdMinor(t, large, first(64), order, num(0))
	slices.Reverse(order[:4])
	holdMinor(t, large, order[:4], order[:4], num(1))
}

// P14.6: no inverse, where the determinant is 0; nothing stands beside that.
func TestNoInverse(t *testing.T) {
	for _, text := range []string{"0", "0 0; 0 0", "1 1; 1 1", "1 2; 2 4", "0 0; 0 5", "1 2 3; 4 5 6; 7 8 9", "0 1 0; 0 0 1; 0 0 0", "1 0 0 0; 0 1 0 0; 0 0 1 0; 0 0 0 0"} {
		got, e := squareOnly()["Inverse"](mx(text), 0)
		holdRefusal(t, of("Inverse", mx(text)), got, e, api.ErrNone)
	}
	for _, zero := range check.Zeros() {
		got, e := squareOnly()["Inverse"](api.Mat{Rows: 1, Cols: 1, At: []api.Int{zero}}, 0)
		holdRefusal(t, "Inverse of [0]", got, e, api.ErrNone)
	}
	for _, n := range []int{5, 63, 64} {
		for _, broken := range []int{0, n / 2, n - 1} {
			a := ones(n, n)
			a.At[broken*n+broken] = num(0)
			got, e := squareOnly()["Inverse"](a, 0)
			holdRefusal(t, of("Inverse", a), got, e, api.ErrNone)
		}
	}
}

// P14.5 at matrices of each rank: with a rank of all rows but one an adjugate of rank 1, with less than that 0.
func TestAdjugate(t *testing.T) {
	for _, c := range [][2]string{
		{"0x0", "0x0"}, {"0", "1"}, {"-7", "1"},
		{"0 0; 0 0", "0 0; 0 0"}, {"0 1; 0 0", "0 -1; 0 0"}, {"2 3; 5 7", "7 -3; -5 2"},
		{"0 0 0; 0 0 0; 0 0 0", "0 0 0; 0 0 0; 0 0 0"}, {"1 1 1; 1 1 1; 1 1 1", "0 0 0; 0 0 0; 0 0 0"},
		{"1 2 3; 4 5 6; 7 8 9", "-3 6 -3; 6 -12 6; -3 6 -3"}, {"1 2 3; 0 1 4; 5 6 0", "-24 18 5; 20 -15 -4; -5 4 1"}, {"0 1 0; 0 0 1; 1 0 0", "0 0 1; 1 0 0; 0 1 0"},
		{"0 0 0 0; 0 2 0 0; 0 0 3 0; 0 0 0 5", "30 0 0 0; 0 0 0 0; 0 0 0 0; 0 0 0 0"},
		{"0 2 0 0; 0 0 3 0; 0 0 0 5; 0 0 0 0", "0 0 0 -30; 0 0 0 0; 0 0 0 0; 0 0 0 0"},
		{"0 2 0 0; 0 0 3 0; 0 0 0 5; 7 0 0 0", "0 0 0 -30; -105 0 0 0; 0 -70 0 0; 0 0 -42 0"},
		{"0 0 0 0; 0 0 0 0; 0 0 3 0; 0 0 0 5", "0 0 0 0; 0 0 0 0; 0 0 0 0; 0 0 0 0"},
	} {
		holdAdjugate(t, mx(c[0]), mx(c[1]))
	}
}

// P14.6: the least number, and with what sign.
func TestInverse(t *testing.T) {
	for _, c := range []struct {
		a, n string
		d    int
	}{
		{"0x0", "0x0", 1}, {"1", "1", 1}, {"-1", "-1", 1}, {"6", "1", 6}, {"-6", "-1", 6},
		{"1 0; 0 -1", "1 0; 0 -1", 1}, {"-6 0; 0 4", "-2 0; 0 3", 12}, {"6 0; 0 10", "5 0; 0 3", 30}, {"0 2; 3 0", "0 2; 3 0", 6}, {"4 6; 6 4", "-2 3; 3 -2", 10},
		{"5 5; 0 5", "1 -1; 0 1", 5}, {"1 2 3; 0 1 4; 5 6 0", "-24 18 5; 20 -15 -4; -5 4 1", 1}, {"0 2 0; 0 0 2; 2 0 0", "0 0 1; 1 0 0; 0 1 0", 2},
		{"2 0 0 0; 0 -4 0 0; 0 0 6 0; 0 0 0 -9", "18 0 0 0; 0 -9 0 0; 0 0 6 0; 0 0 0 -4", 36},
	} {
		holdInverse(t, mx(c.a), mx(c.n), num(c.d))
	}
}
