package rref_test

import (
	"slices"
	"testing"

	"trellis/api"
	"trellis/check"
	"trellis/rref"
	"trellis/zint"
)

// P17.2.
func TestMul(t *testing.T) {
	for _, c := range [][3]string{
		{"0x0", "0x0", "0x0"}, {"0x3", "3x0", "0x0"}, {"3x0", "0x2", "0 0; 0 0; 0 0"}, {"1x0", "0x1", "0"}, {"0x2", "1 2/3; 3 4", "0x2"}, {"1 2; 3 4", "2x0", "2x0"},
		{"1/2", "2/3", "1/3"}, {"0/7", "2/3", "0"}, {"4/6", "-9/3", "-2"}, {"1/-2", "1/-3", "1/6"}, {"-1/2", "6/4", "-3/4"},
		{"1/2 1/2", "1/3; -1/3", "0"}, {"1/6 1/10", "1; 1", "4/15"}, {"1/2; 1/3", "1/5 7", "1/10 7/2; 1/15 7/3"}, {"1/2 1; 0 1/3", "2 3; 1/4 -6", "5/4 -9/2; 1/12 -2"},
		{"1 2; 3 4", "-2 1; 3/2 -1/2", "1 0; 0 1"}, {"0 1; 1 0", "1/2 2/4; 3/6 4/8", "1/2 1/2; 1/2 1/2"},
	} {
		holdMul(t, mx(c[0]), mx(c[1]), mx(c[2]))
	}
	holdMul(t, filled(64, 64, row("1/2")), filled(64, 64, row("1/3")), filled(64, 64, row("32/3")))
	holdMul(t, mx("64x0"), mx("0x64"), filled(64, 64, row("0")))
}

// P17.3.
func TestForm(t *testing.T) {
	for _, c := range []struct {
		q, want string
		columns []int
	}{
		{"0x0", "0x0", nil}, {"0x3", "0x3", nil}, {"3x0", "3x0", nil}, {"64x0", "64x0", nil}, {"0x64", "0x64", nil},
		{"0", "0", nil}, {"0/-3", "0", nil}, {"7/3", "1", first(1)}, {"-2/6", "1", first(1)}, {"3/-5", "1", first(1)},
		{"0 0; 0 0", "0 0; 0 0", nil}, {"2/3 4/9 -1", "1 2/3 -3/2", first(1)}, {"0 -3/2 1", "0 1 -2/3", []int{1}}, {"0; 2/7; 1", "1; 0; 0", first(1)},
		{"1/2 1/3; 1/3 1/2", "1 0; 0 1", first(2)}, {"1/2 1/3; 3/2 1", "1 2/3; 0 0", first(1)}, {"0 1; 1/2 1; 1 0", "1 0; 0 1; 0 0", first(2)},
		{"1 2 3; 4 5 6; 7 8 9", "1 0 -1; 0 1 2; 0 0 0", first(2)}, {"1 2 3; 4 5 6; 7 8 10", "1 0 0; 0 1 0; 0 0 1", first(3)},
		{"0 0 2/3 4; 0 0 1/3 3", "0 0 1 0; 0 0 0 1", []int{2, 3}}, {"0 2 0 4; 0 0 0 3/7; 0 1 0 0", "0 1 0 0; 0 0 0 1; 0 0 0 0", []int{1, 3}},
		{"0 0 0; 0 0 -5/3; 0 0 0", "0 0 1; 0 0 0; 0 0 0", []int{2}}, {"1 1/2 1/3 1/4; 2 1 1/3 1/4", "1 1/2 0 0; 0 0 1 3/4", []int{0, 2}},
		{"1/2 1/3 1/4; 1/3 1/4 1/5", "1 0 -3/10; 0 1 6/5", first(2)},
	} {
		holdForm(t, mx(c.q), mx(c.want), c.columns)
	}
}

// P17.4.
func TestKernel(t *testing.T) {
	for q, want := range map[string]string{
		"0x0": "0x0", "0x1": "0x0", "0x64": "0x0", "1x0": "1", "3x0": "1 0 0; 0 1 0; 0 0 1", "0": "1", "0/-7 0": "1", "1/2": "0x1", "0 0; 0 0": "1 0; 0 1",
		"1/2; 1/3": "1 -3/2", "1/3; 1/2": "1 -2/3", "0; 1/2": "1 0", "1/2; 0": "0 1", "1; 2; 3": "1 0 -1/3; 0 1 -2/3", "1; 2; 0": "1 -1/2 0; 0 0 1", "0; 0; -3/5": "1 0 0; 0 1 0",
		"1 2 3; 4 5 6; 7 8 9": "1 -2 1", "1 0; 0 1; 1/2 1/3": "1 2/3 -2", "1 0; 0 1; 1/2 0": "1 0 -2", "1/2 1/3; 3/2 1": "1 -1/3", "1 2; 3 4": "0x2", "1 1/2; 1/2 1/4; 1/4 1/8; 0 0": "1 0 -4 0; 0 1 -2 0; 0 0 0 1",
	} {
		holdKernel(t, mx(q), mx(want))
	}
	holdKernel(t, mx("64x0"), unitOf(64))
	holdKernel(t, filled(64, 64, row("0/5")), unitOf(64))
	holdKernel(t, unitOf(64), mx("0x64"))
}

// P17.5.
func TestSolve(t *testing.T) {
	for _, c := range [][3]string{
		{"0x0", "", ""}, {"0x1", "0", ""}, {"0x3", "0/2 0 0/-9", ""}, {"1x0", "", "0"}, {"3x0", "", "0 0 0"}, {"0", "0/4", "0"}, {"0/9 0", "0 0", "0"},
		{"2/3", "4/9", "2/3"}, {"-1/2", "3/6", "-1"}, {"1/2 1/3; 1/4 1/5", "0 0", "0 0"}, {"1 2; 3 4", "0 1", "3/2 -1/2"}, {"1/2; 1/3", "1", "0 3"}, {"1/2; 0", "1", "2 0"}, {"0; 1/2", "1", "0 2"},
		{"1; 2; 3", "1/2", "0 0 1/6"}, {"1 0; 0 0; 0 1", "1/5 1/6", "1/5 0 1/6"}, {"1 1/2; 2 1; 3 3/2", "1 1/2", "0 0 1/3"}, {"1 0 1/2; 0 1 1/3", "1/2 -1/3 5/36", "1/2 -1/3"},
		{"1 2 3; 4 5 6; 7 8 9", "1 2 3", "0 2 -1"}, {"0 0; 1/7 0; 0 0; 0 -3", "1 1", "0 7 0 -1/3"},
	} {
		holdSolve(t, mx(c[0]), row(c[1]), row(c[2]))
	}
	for _, c := range [][2]string{
		{"0x1", "1/2"}, {"0x3", "0 0 -1/9"}, {"0", "1/7"}, {"0 0; 0 0", "0 1"}, {"1/2 1/3", "1/2 1/4"}, {"1 1/2; 2 1", "1 1"}, {"1 2 3; 4 5 6; 7 8 9", "1 2 4"}, {"1 0 1/2; 0 1 1/3", "1/2 -1/3 5/35"}, {"0 1; 0 1", "1 0"}, {"1 0; 1 0", "0 1"},
	} {
		got, e := rref.Solve(mx(c[0]), row(c[1]))
		holdRefusal(t, of("Solve of "+c[1], mx(c[0])), got, e, api.ErrNone)
	}
}

// P17.6.
func TestInverse(t *testing.T) {
	for q, want := range map[string]string{
		"1": "1", "-2/3": "-3/2", "3/-6": "-2", "4/6": "3/2", "0 1; 1 0": "0 1; 1 0", "0 1/2; -1/3 0": "0 -3; 2 0", "1/2 1/3; 1/3 1/4": "18 -24; -24 36", "1 1/2; 0 1": "1 -1/2; 0 1", "0 0 1; 1/2 0 0; 0 1/3 0": "0 2 0; 0 0 3; 1 0 0", "1 1/2 1/3; 1/2 1/3 1/4; 1/3 1/4 1/5": "9 -36 30; -36 192 -180; 30 -180 180",
	} {
		holdInverse(t, mx(q), mx(want))
		holdInverse(t, mx(want), inLowestTerms(mx(q)))
	}
	for _, q := range []string{"0", "0/-5", "0 0; 0 0", "1/2 1/3; 3/2 1", "0 1; 0 1", "1 1; 0 0", "1 2 3; 4 5 6; 7 8 9", "1 0 1/2; 0 1 1/3; 1 1 5/6"} {
		got, e := inverse(mx(q))
		holdRefusal(t, of("Inverse", mx(q)), got, e, api.ErrNone)
	}
	holdInverse(t, unitOf(64), unitOf(64))
	broken := unitOf(64)
	broken.At[64*64-1] = check.Over(0, 3)
	got, e := inverse(broken)
	holdRefusal(t, of("Inverse", broken), got, e, api.ErrNone)
}

// P17.7.
func TestClear(t *testing.T) {
	for _, c := range []struct {
		q, want string
		by      []int
	}{
		{"0x0", "0x0", nil}, {"0x3", "0x3", nil}, {"3x0", "3x0", []int{1, 1, 1}}, {"0/6", "0", []int{1}}, {"6/4", "3", []int{2}}, {"6/-4", "-3", []int{2}}, {"-6/-4", "3", []int{2}}, {"12/-4", "-3", []int{1}},
		{"2 4 6", "2 4 6", []int{1}}, {"2/3 4/3", "2 4", []int{3}}, {"1/2 1/3 1/5", "15 10 6", []int{30}}, {"1/4 1/6", "3 2", []int{12}}, {"1/4; 1/6", "1; 1", []int{4, 6}}, {"1/2 0; 0 0; 0 -1/9", "1 0; 0 0; 0 -1", []int{2, 1, 9}}, {"3/6 5/10 7/14", "1 1 1", []int{2}},
	} {
		holdClear(t, mx(c.q), whole(c.want), nums(c.by...))
	}
	ones := slices.Repeat(nums(1), 64)
	holdClear(t, mx("64x0"), whole("64x0"), ones)
	holdClear(t, filled(64, 64, row("2/4")), check.Filled(64, 64, nums(1)), slices.Repeat(nums(2), 64))
}

// P17.3, P17.5, P17.6, P17.7: each integer, in whatever form and over whatever integer, as the only entry.
func TestSingles(t *testing.T) {
	for _, n := range check.Integers() {
		for _, d := range check.Integers() {
			if zint.Sign(d) != 0 {
				holdSingle(t, api.Frac{Num: n, Den: d})
			}
		}
	}
}

// holdSingle holds the calls at a matrix of one fraction.
func holdSingle(t *testing.T, f api.Frac) {
	t.Helper()
	q := api.QMat{Rows: 1, Cols: 1, At: []api.Frac{f}}
	low := lowest(f)
	holdClear(t, q, api.Mat{Rows: 1, Cols: 1, At: []api.Int{low.Num}}, []api.Int{low.Den})
	holdMul(t, q, mx("-3/-3"), api.QMat{Rows: 1, Cols: 1, At: []api.Frac{low}})
	holdSolve(t, mx("5/5"), q.At, []api.Frac{low})
	if zint.Sign(f.Num) == 0 {
		holdForm(t, q, mx("0"), nil)
		holdKernel(t, q, mx("1"))
		got, e := inverse(q)
		holdRefusal(t, of("Inverse", q), got, e, api.ErrNone)
		return
	}
	turned := lowest(api.Frac{Num: f.Den, Den: f.Num})
	holdForm(t, q, mx("1"), first(1))
	holdKernel(t, q, mx("0x1"))
	holdInverse(t, q, api.QMat{Rows: 1, Cols: 1, At: []api.Frac{turned}})
	holdSolve(t, q, row("1"), []api.Frac{turned})
	holdSolve(t, q, q.At, row("1"))
}
