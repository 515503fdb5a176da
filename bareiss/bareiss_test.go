package bareiss_test

import (
	"fmt"
	"slices"
	"testing"

	"trellis/api"
	"trellis/bareiss"
	"trellis/check"
	"trellis/made"
)

// The integers, rows and matrices of the tests.
var (
	num, nums   = check.Num, check.Nums
	plus, minus = check.Plus, check.Minus
	row, mx     = check.Row, check.Matrix
	first       = made.First
	product     = made.Product
)

// of names a call in a test's report.
func of(name string, a api.Mat) string {
	return name + called(a)
}

// called is how a matrix is named in a test's report.
func called(a api.Mat) string {
	if len(a.At) > 30 {
		return fmt.Sprintf(" of %d by %d", a.Rows, a.Cols)
	}
	return fmt.Sprintf("(%v)", a)
}

// holdPlaces asks for a list of rows or columns.
func holdPlaces(t *testing.T, call string, got, want []int) {
	t.Helper()
	if !slices.Equal(got, want) {
		t.Errorf("%s: %v, want %v", call, got, want)
	}
}

// holdCore asks for these rows, these columns and this determinant of the core, and for what hangs on them.
func holdCore(t *testing.T, a api.Mat, rows, cols []int, d api.Int) {
	t.Helper()
	name := called(a)
	gotRows, gotCols, got, e := bareiss.Core(a)
	check.Same(t, "Core"+name, e, api.OK)
	holdPlaces(t, "Core's rows"+name, gotRows, rows)
	holdPlaces(t, "Core's columns"+name, gotCols, cols)
	check.Int(t, "Core's determinant"+name, got, d)
	rank, e := bareiss.Rank(a)
	check.Same(t, "Rank"+name, e, api.OK)
	check.Same(t, "Rank"+name, rank, len(rows))
	places, e := bareiss.RowSet(a)
	check.Same(t, "RowSet"+name, e, api.OK)
	holdPlaces(t, "RowSet"+name, places, rows)
	places, e = bareiss.Pivots(a)
	check.Same(t, "Pivots"+name, e, api.OK)
	holdPlaces(t, "Pivots"+name, places, cols)
}

// holdDet asks for this determinant.
func holdDet(t *testing.T, a api.Mat, want api.Int) {
	t.Helper()
	got, e := bareiss.Det(a)
	check.Same(t, of("Det", a), e, api.OK)
	check.Int(t, of("Det", a), got, want)
}

// holdLeading asks for these leading determinants, the last of which is the determinant.
func holdLeading(t *testing.T, a api.Mat, want []api.Int) {
	t.Helper()
	got, e := bareiss.Leading(a)
	check.Same(t, of("Leading", a), e, api.OK)
	check.Ints(t, of("Leading", a), got, want)
	holdDet(t, a, want[len(want)-1])
}

// taker is a call on a matrix, what it answers told as one list of integers; a 0 alone is told as nothing.
type taker func(a api.Mat) ([]api.Int, api.Errno)

// alone is the list of one integer, or nothing.
func alone(n api.Int) []api.Int {
	if !n.Neg && len(n.Mag) == 0 {
		return nil
	}
	return []api.Int{n}
}

// anyShape are the calls that take matrices of every shape.
func anyShape() map[string]taker {
	return map[string]taker{
		"Rank": func(a api.Mat) ([]api.Int, api.Errno) {
			rank, e := bareiss.Rank(a)
			return alone(num(rank)), e
		},
		"Pivots": func(a api.Mat) ([]api.Int, api.Errno) {
			cols, e := bareiss.Pivots(a)
			return nums(cols...), e
		},
		"RowSet": func(a api.Mat) ([]api.Int, api.Errno) {
			rows, e := bareiss.RowSet(a)
			return nums(rows...), e
		},
		"Core": func(a api.Mat) ([]api.Int, api.Errno) {
			rows, cols, d, e := bareiss.Core(a)
			return slices.Concat(nums(rows...), nums(cols...), alone(d)), e
		},
	}
}

// squareOnly are the calls that refuse a matrix that is not square.
func squareOnly() map[string]taker {
	return map[string]taker{
		"Leading": bareiss.Leading,
		"Det": func(a api.Mat) ([]api.Int, api.Errno) {
			d, e := bareiss.Det(a)
			return alone(d), e
		},
	}
}

// takers are all calls.
func takers() map[string]taker {
	all := anyShape()
	for name, call := range squareOnly() {
		all[name] = call
	}
	return all
}

// holdRefusal asks for an error with nothing beside it.
func holdRefusal(t *testing.T, call string, got []api.Int, e, want api.Errno) {
	t.Helper()
	check.Same(t, call, e, want)
	check.Ints(t, call+", beside the error", got, nil)
}

// P13.1 to P13.5: a matrix that is not sound is told first, one that is not square too.
func TestUnsound(t *testing.T) {
	for name, call := range takers() {
		for _, a := range check.Unsound() {
			got, e := call(a)
			holdRefusal(t, of(name, a), got, e, api.ErrMat)
		}
	}
}

// sizes are numbers of rows, or of columns.
func sizes() []int {
	return []int{0, 1, 2, 3, 5, 63, 64}
}

// P13.1 and P13.5 refuse each shape that is not square, with 0 in all places too; the other calls refuse none.
func TestNotSquare(t *testing.T) {
	for _, rows := range sizes() {
		for _, cols := range sizes() {
			for _, entries := range [][]api.Int{nums(0), nums(1, 0, -2)} {
				a := check.Filled(rows, cols, entries)
				for name, call := range squareOnly() {
					got, e := call(a)
					if rows != cols {
						holdRefusal(t, of(name, a), got, e, api.ErrFit)
					} else {
						check.Same(t, of(name, a), e, api.OK)
					}
				}
				for name, call := range anyShape() {
					_, e := call(a)
					check.Same(t, of(name, a), e, api.OK)
				}
			}
		}
	}
}

// P13.1 at matrices whose determinant is plain to see.
func TestDet(t *testing.T) {
	for _, c := range []struct {
		a    string
		want int
	}{
		{"0x0", 1}, {"0", 0}, {"7", 7}, {"-7", -7},
		{"1 0; 0 1", 1}, {"-1 0; 0 1", -1}, {"0 2; 3 0", -6}, {"0 0; 0 1", 0}, {"2 3; 5 7", -1},
		{"0 0; 3 4", 0}, {"3 4; 0 0", 0}, {"0 3; 0 4", 0}, {"3 0; 4 0", 0}, {"6 4; 3 2", 0}, {"-6 4; 3 2", -24},
		{"0 1 0; 0 0 1; 1 0 0", 1}, {"0 0 1; 0 1 0; 1 0 0", -1}, {"0 0 1; 1 0 0; 0 1 0", 1}, {"0 1 0; 1 0 0; 0 0 1", -1},
		{"1 2 3; 4 5 6; 7 8 9", 0}, {"1 2 3; 4 5 6; 7 8 10", -3}, {"1 2 4; 2 4 9; 3 7 8", -1}, {"0 0 2; 0 3 5; 7 11 13", -42},
		{"0 0 0 1; 0 0 1 0; 0 1 0 0; 1 0 0 0", 1}, {"0 2 0 0; 0 0 3 0; 0 0 0 5; 7 0 0 0", -210},
		{"2 4 6 8; 1 2 3 4; 0 1 0 1; 1 0 1 1", 0}, {"1 1 1 1; 1 1 1 2; 1 1 3 1; 1 4 1 1", -6},
	} {
		holdDet(t, mx(c.a), num(c.want))
	}
}

// P13.2 to P13.4: rows and columns of zeros, rows and columns that hang on those ahead of them, and pivots that are not found in order.
func TestCore(t *testing.T) {
	for _, c := range []struct {
		a          string
		rows, cols []int
		d          int
	}{
		{"0x0", nil, nil, 1}, {"0x64", nil, nil, 1}, {"64x0", nil, nil, 1}, {"0", nil, nil, 1}, {"0 0 0; 0 0 0", nil, nil, 1},
		{"5", []int{0}, []int{0}, 5}, {"-5", []int{0}, []int{0}, -5},
		{"0; 0; -5", []int{2}, []int{0}, -5}, {"0 0 5", []int{0}, []int{2}, 5}, {"0 0 5; 0 0 -5", []int{0}, []int{2}, 5},
		{"0 0; 0 6; 0 3", []int{1}, []int{1}, 6}, {"4 6; 2 3", []int{0}, []int{0}, 4}, {"2 3; 4 6", []int{0}, []int{0}, 2},
		{"1 1; 1 0; 0 1", []int{0, 1}, []int{0, 1}, -1}, {"1 1 0; 1 0 1", []int{0, 1}, []int{0, 1}, -1},
		{"0 0 1; 0 1 0; 1 0 0", []int{0, 1, 2}, []int{0, 1, 2}, -1}, {"0 1 0; 0 0 1; 1 0 0", []int{0, 1, 2}, []int{0, 1, 2}, 1},
		{"0 0 0 2; 0 3 0 0; 0 0 0 4; 0 0 5 0", []int{0, 1, 3}, []int{1, 2, 3}, 30},
		{"0 0 0 0; 0 2 4 6; 0 1 2 3; 0 0 0 7; 0 1 2 4; 9 9 9 9", []int{1, 3, 5}, []int{0, 1, 3}, 126},
		{"2 1 3; 4 2 6; 6 3 9; 0 0 1", []int{0, 3}, []int{0, 2}, 2},
		{"3 3 3 3; 3 3 3 3", []int{0}, []int{0}, 3}, {"0 -3; 0 -3; 0 -3; 1 0", []int{0, 3}, []int{0, 1}, 3},
		{"1 2 3; 4 5 6; 7 8 9", []int{0, 1}, []int{0, 1}, -3}, {"1 2 3; 4 5 6; 7 8 10", []int{0, 1, 2}, []int{0, 1, 2}, -3},
	} {
		holdCore(t, mx(c.a), c.rows, c.cols, num(c.d))
	}
}

// P13.5: determinants that are 0 while later ones are not, and such as stay 0.
func TestLeading(t *testing.T) {
	for _, c := range []struct{ a, want string }{
		{"0x0", "1"}, {"0", "1 0"}, {"-4", "1 -4"},
		{"0 0; 0 0", "1 0 0"}, {"0 0; 0 5", "1 0 0"}, {"0 2; 3 0", "1 0 -6"}, {"5 0; 0 0", "1 5 0"},
		{"0 0 2; 0 3 0; 5 0 0", "1 0 0 -30"}, {"0 2 0; 3 0 0; 0 0 5", "1 0 -6 -30"}, {"2 0 0; 0 0 3; 0 5 0", "1 2 0 -30"},
		{"0 0 1; 1 0 0; 0 1 0", "1 0 0 1"}, {"1 2 3; 2 4 7; 1 3 1", "1 1 0 -1"}, {"1 1 1; 1 1 1; 0 0 1", "1 1 0 0"},
		{"0 0 0; 0 1 0; 0 0 1", "1 0 0 0"}, {"0 1 0; 0 1 1; 0 0 1", "1 0 0 0"}, {"0 1 2; 0 2 4; 1 0 0", "1 0 0 0"},
		{"0 1 0 0; 1 0 0 0; 0 0 0 1; 0 0 1 0", "1 0 -1 0 1"}, {"0 0 0 2; 0 0 3 0; 0 5 0 0; 7 0 0 0", "1 0 0 0 210"},
		{"2 0 0 0; 0 0 0 3; 0 0 5 0; 0 7 0 0", "1 2 0 0 -210"}, {"0 0 1 0; 0 1 0 0; 1 0 0 0; 0 0 0 9", "1 0 0 -1 -9"},
	} {
		holdLeading(t, mx(c.a), row(c.want))
	}
}
