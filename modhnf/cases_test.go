package modhnf_test

import (
	"testing"

	"trellis/api"
	"trellis/bezout"
	"trellis/check"
	"trellis/made"
	"trellis/zint"
)

// P19.2 to P19.4, worked out by hand.
func TestForm(t *testing.T) {
	for _, c := range []struct {
		a, form  string
		multiple int
	}{
		{"0", "0", 1}, {"1", "1", 1}, {"-1", "1", 1}, {"6", "6", 6}, {"-6", "6", 6}, {"0 0; 0 0", "0 0; 0 0", 1}, {"0x0", "0x0", 1}, {"64x0", "64x0", 1}, {"0x64", "0x64", 1},
		// One row, one column: the first number of the row, the first of the column that is not 0.
		{"-2 4", "2 -4", 2}, {"0 -3 5", "0 3 -5", 3}, {"0 0 4", "0 0 4", 4}, {"5 7 -9", "5 7 -9", 5}, {"4; 6", "2; 0", 4}, {"6; -10; 15", "1; 0; 0", 6}, {"0; 0; -7", "7; 0; 0", 7}, {"-4; 0; 8", "4; 0; 0", 4},
		// As many pivot columns as columns.
		{"1 2; 3 4", "1 0; 0 2", 2}, {"3 1; 1 3", "1 3; 0 8", 8}, {"0 1; 1 0", "1 0; 0 1", 1}, {"0 0 3; 0 2 1; 4 1 1", "4 1 1; 0 2 1; 0 0 3", 24}, {"0 0 3; 0 2 5; 4 -1 1", "4 1 0; 0 2 2; 0 0 3", 24}, {"1 -1; 0 1", "1 0; 0 1", 1}, {"1 0 5; 0 1 5; 0 0 3", "1 0 2; 0 1 2; 0 0 3", 3},
		// More rows than the rank: the core has the first of them that it can.
		{"2 4; 4 8; 1 1", "1 1; 0 2; 0 0", 2}, {"2 0 0; 0 2 0; 1 1 1", "1 1 1; 0 2 0; 0 0 2", 4}, {"10 0; 0 15; 6 6", "2 12; 0 15; 0 0", 150}, {"0 0; 0 0; 0 -2", "0 2; 0 0; 0 0", 2}, {"6 0; 0 6; 1 0; 0 1", "1 0; 0 1; 0 0; 0 0", 36}, {"0 0; 3 0; 5 0; 0 7; 0 9", "1 0; 0 1; 0 0; 0 0; 0 0", 21},
		// Fewer pivot columns than columns.
		{"1 2 3; 4 5 6; 7 8 9", "1 2 3; 0 3 6; 0 0 0", 3}, {"0 0 4 6; 0 0 6 4", "0 0 2 8; 0 0 0 10", 20}, {"0 2 4; 0 3 6", "0 1 2; 0 0 0", 2}, {"2 4 0; 0 0 3", "2 4 0; 0 0 3", 6}, {"2 4 5; 0 0 3", "2 4 2; 0 0 3", 6}, {"4 6 1; 6 9 1", "2 3 0; 0 0 1", 2}, {"6 -3; -4 2", "2 -1; 0 0", 6}, {"0 5 5 5; 0 5 5 10; 0 10 10 20", "0 5 5 0; 0 0 0 5; 0 0 0 0", 25},
		// What stands beside the pivots goes with the rows, below 0 and beyond the determinant too.
		{"1 1000 -1000; 2 2000 -1999", "1 1000 0; 0 0 1", 1}, {"3 -7; 5 0", "1 21; 0 35", 35}, {"2 -70 1; 3 -105 1", "1 -35 0; 0 0 1", 1},
	} {
		for _, a := range []api.Mat{mx(c.a), made.Disguised(mx(c.a))} {
			holdForm(t, a, mx(c.form))
			holdMultiple(t, a, num(c.multiple))
		}
	}
}

// P19.1, worked out by hand.
func TestModulo(t *testing.T) {
	for _, c := range []struct {
		a    string
		d    int
		want string
	}{
		// No columns, no rows, zeros alone.
		{"0x0", 5, "0x0"}, {"64x0", 5, "0x0"}, {"0x1", 5, "5"}, {"0x3", 1, "1 0 0; 0 1 0; 0 0 1"}, {"0", 5, "5"}, {"0 0; 0 0; 0 0", 4, "4 0; 0 4"},
		// One column: the greatest common divisor with d.
		{"8", 12, "4"}, {"-8", 12, "4"}, {"12", 12, "12"}, {"24", 12, "12"}, {"-12", 12, "12"}, {"7", 1, "1"}, {"8; 6", 12, "2"}, {"9; 6; 10", 30, "1"}, {"1", 12, "1"}, {"11", 12, "1"}, {"13", 12, "1"},
		// A row alone: what makes a 0 of its first number stands below it.
		{"0 3", 6, "6 0; 0 3"}, {"1 1", 6, "1 1; 0 6"}, {"2 3", 6, "2 0; 0 3"}, {"3 2", 6, "3 0; 0 2"}, {"4 1", 6, "2 2; 0 3"}, {"5 1", 6, "1 5; 0 6"}, {"7 -1", 6, "1 5; 0 6"}, {"6 12", 6, "6 0; 0 6"}, {"1 2 3", 4, "1 2 3; 0 4 0; 0 0 4"}, {"2 2 1", 4, "2 2 1; 0 4 0; 0 0 2"}, {"0 0 3", 9, "9 0 0; 0 9 0; 0 0 3"},
		// Fewer rows than columns, and more; the same row twice; rows beyond d.
		{"2 1; 4 2", 4, "2 1; 0 2"}, {"1 0 1; 0 1 1", 5, "1 0 1; 0 1 1; 0 0 5"}, {"2 0; 0 2; 1 1", 8, "1 1; 0 2"}, {"2 0; 0 2; 1 1", 3, "1 0; 0 1"}, {"10 0; 0 10", 4, "2 0; 0 2"}, {"4 4; 8 8; -4 -4", 16, "4 4; 0 16"}, {"100 37; 0 14", 10, "10 0; 0 1"},
		// Modulo 1 nothing is left.
		{"4 0; 0 6; 2 3", 1, "1 0; 0 1"}, {"0 0 0", 1, "1 0 0; 0 1 0; 0 0 1"},
	} {
		holdModulo(t, mx(c.a), num(c.d), mx(c.want))
		holdModulo(t, made.Disguised(mx(c.a)), num(c.d), mx(c.want))
		d := num(c.d)
		d.Mag = append(d.Mag, 0, 0)
		holdModulo(t, mx(c.a), d, mx(c.want))
	}
}

// P19.1 to P19.4: each integer, in whatever form, as the only entry and as d.
func TestSingles(t *testing.T) {
	all := append(check.Integers(), check.Zeros()...)
	for _, n := range all {
		a := api.Mat{Rows: 1, Cols: 1, At: []api.Int{n}}
		size := zint.Abs(n)
		holdForm(t, a, api.Mat{Rows: 1, Cols: 1, At: []api.Int{size}})
		if zint.Sign(n) == 0 {
			size = num(1)
		}
		holdVolume(t, a, size)
		holdMultiple(t, a, size)
		for _, d := range all {
			if zint.Sign(d) != 0 {
				want := api.Mat{Rows: 1, Cols: 1, At: []api.Int{bezout.Gcd(n, d)}}
				holdModulo(t, a, d, want)
			}
		}
	}
}

// P19.1 to P19.4: zeros in every form are zeros, and one number among them is all there is.
func TestZeros(t *testing.T) {
	for _, shape := range [][2]int{{1, 1}, {2, 3}, {3, 2}, {8, 8}, {64, 64}, {64, 1}, {1, 64}} {
		rows, cols := shape[0], shape[1]
		a := check.Filled(rows, cols, check.Zeros())
		zero := check.Filled(rows, cols, nums(0))
		holdForm(t, a, zero)
		holdMultiple(t, a, num(1))
		holdModulo(t, a, num(6), multiples(num(6), cols))
		a.At[len(a.At)-1] = minus(0, 3, 0)
		zero.At[cols-1] = plus(0, 3)
		holdForm(t, a, zero)
		holdMultiple(t, a, plus(0, 3))
		want := multiples(num(9), cols)
		want.At[len(want.At)-1] = num(3)
		holdModulo(t, a, num(9), want)
	}
}
