package hnf_test

import (
	"testing"

	"trellis/api"
	"trellis/check"
	"trellis/made"
	"trellis/zint"
)

// P18.1.
func TestForm(t *testing.T) {
	for a, want := range map[string]string{
		"0": "0", "1": "1", "-1": "1", "6": "6", "-6": "6", "0 0; 0 0": "0 0; 0 0", "-2 4": "2 -4", "0 -3 5": "0 3 -5", "4; 6": "2; 0", "6; -10; 15": "1; 0; 0", "0; 0; -7": "7; 0; 0", "-4; 0; 8": "4; 0; 0",
		"1 2; 3 4": "1 0; 0 2", "3 1; 1 3": "1 3; 0 8", "2 4; 4 8; 1 1": "1 1; 0 2; 0 0", "0 1; 1 0": "1 0; 0 1", "0 0 3; 0 2 1; 4 1 1": "4 1 1; 0 2 1; 0 0 3", "0 0 3; 0 2 5; 4 -1 1": "4 1 0; 0 2 2; 0 0 3", "1 2 3; 4 5 6; 7 8 9": "1 2 3; 0 3 6; 0 0 0",
		"2 0 0; 0 2 0; 1 1 1": "1 1 1; 0 2 0; 0 0 2", "10 0; 0 15; 6 6": "2 12; 0 15; 0 0", "0 0 4 6; 0 0 6 4": "0 0 2 8; 0 0 0 10", "5 7 -9": "5 7 -9", "0 0; 0 0; 0 -2": "0 2; 0 0; 0 0", "1 -1; 0 1": "1 0; 0 1", "1 0 5; 0 1 5; 0 0 3": "1 0 2; 0 1 2; 0 0 3", "4 0; 0 6; 2 3": "2 3; 0 6; 0 0",
	} {
		holdForm(t, mx(a), mx(want))
		holdForm(t, made.Disguised(mx(a)), mx(want))
	}
}

// P18.2: U and W, worked out by hand.
func TestFull(t *testing.T) {
	for _, c := range [][3]string{
		{"1", "1", "1"}, {"0", "1", "1"}, {"-2 4", "-1", "-1"}, {"0 1; 1 0", "0 1; 1 0", "0 1; 1 0"}, {"0 0 1; 1 0 0; 0 1 0", "0 1 0; 0 0 1; 1 0 0", "0 0 1; 1 0 0; 0 1 0"}, {"0 -1; -1 0", "0 -1; -1 0", "0 -1; -1 0"},
		// The kernel of 0; 5 is 1 0, and by it 0 1 is reduced.
		{"0; 5", "0 1; 1 0", "0 1; 1 0"}, {"5; 0", "1 0; 0 1", "1 0; 0 1"},
		// The kernel is 1 -1, and of the rows that make 3 just 0 1 has a 0 in its column.
		{"3; 3", "0 1; 1 -1", "1 1; 1 0"}, {"-3; 3", "0 1; 1 1", "-1 1; 1 0"}, {"1; 1; 1", "0 0 1; 1 0 -1; 0 1 -1", "1 1 0; 1 0 1; 1 0 0"},
		// In the kernel of 6; 10; 15 the first number is a multiple of 5, and beside 0 the second one of 3.
		{"6; 10; 15", "1 1 -1; 5 0 -2; 0 3 -2", "6 -1 -2; 10 -2 -3; 15 -3 -5"},
	} {
		full := holdFull(t, mx(c[0]))
		check.Mat(t, of("U of Full", mx(c[0])), full.U, mx(c[1]))
		check.Mat(t, of("W of Full", mx(c[0])), full.W, mx(c[2]))
	}
}

// P18.1 to P18.5: each integer, in whatever form, as the only entry.
func TestSingles(t *testing.T) {
	for _, n := range append(check.Integers(), check.Zeros()...) {
		a := api.Mat{Rows: 1, Cols: 1, At: []api.Int{n}}
		size := api.Mat{Rows: 1, Cols: 1, At: []api.Int{zint.Abs(n)}}
		holdForm(t, a, size)
		full := holdFull(t, a)
		sign := num(1)
		if zint.Sign(n) < 0 {
			sign = num(-1)
		}
		check.Mat(t, of("H of Full", a), full.H, size)
		check.Ints(t, of("U of Full", a), full.U.At, []api.Int{sign})
		check.Ints(t, of("W of Full", a), full.W.At, []api.Int{sign})
		holdIsForm(t, a, zint.Sign(n) >= 0)
		basis := rowsFrom(size, 0, rankOf(size))
		holdInsert(t, mx("0x1"), a.At, basis)
		holdInsert(t, mx("0"), a.At, basis)
		holdReduce(t, mx("1"), a.At, nums(0), []api.Int{zint.Least(n)})
		for _, m := range check.Integers() {
			if zint.Sign(n) <= 0 {
				break
			}
			times, rest, _ := zint.Floor(m, n)
			holdReduce(t, a, []api.Int{m}, []api.Int{rest}, []api.Int{times})
		}
	}
}

// P18.1: zeros in every form are zeros.
func TestZeros(t *testing.T) {
	for _, shape := range [][2]int{{1, 1}, {2, 3}, {3, 2}, {8, 8}, {64, 64}, {64, 1}, {1, 64}} {
		a := check.Filled(shape[0], shape[1], check.Zeros())
		zero := check.Filled(shape[0], shape[1], nums(0))
		holdForm(t, a, zero)
		holdIsForm(t, a, true)
		holdPivots(t, a, nil)
		full := holdFull(t, a)
		check.Mat(t, of("U of Full of zeros", a), full.U, unitOf(a.Rows))
		v := check.Filled(1, a.Cols, nums(4, -5)).At
		holdReduce(t, a, v, v, make([]api.Int, a.Rows))
		holdInsert(t, a, a.At[:a.Cols], api.Mat{Cols: a.Cols})
		holdInsert(t, a, v, api.Mat{Rows: 1, Cols: a.Cols, At: v})
		// One number in the last place.
		a.At[len(a.At)-1] = minus(0, 3, 0)
		zero.At[shape[1]-1] = plus(0, 3)
		holdForm(t, a, zero)
		holdIsForm(t, a, false)
		holdFull(t, a)
	}
}

// P18.4.
func TestReduce(t *testing.T) {
	for _, c := range [][4]string{
		{"0x1", "-7", "-7", ""}, {"3", "-7", "2", "-3"}, {"3", "7", "1", "2"}, {"3", "0", "0", "0"}, {"3", "3", "0", "1"}, {"3", "-3", "0", "-1"}, {"0; 0", "-7", "-7", "0 0"}, {"4; 0; 0", "-7", "1", "-2 0 0"},
		{"1 0; 0 1", "-7 9", "0 0", "-7 9"}, {"2 3; 0 5", "0 0", "0 0", "0 0"}, {"2 3; 0 5", "1 4", "1 4", "0 0"}, {"2 3; 0 5", "2 3", "0 0", "1 0"}, {"2 3; 0 5", "-1 0", "1 3", "-1 0"}, {"2 3; 0 5", "-1 -4", "1 4", "-1 -1"},
		{"0 2 -9", "5 -3 4", "5 1 -14", "-2"}, {"3 -7; 0 0", "10 0", "1 21", "3 0"}, {"0 2 4; 0 0 5; 0 0 0", "-1 7 -2", "-1 1 1", "3 -3 0"}, {"1 0 -9; 0 1 9", "2 3 0", "0 0 -9", "2 3"},
	} {
		holdReduce(t, mx(c[0]), row(c[1]), row(c[2]), row(c[3]))
		v := made.Disguised(api.Mat{Rows: 1, Cols: len(row(c[1])), At: row(c[1])})
		holdReduce(t, made.Disguised(mx(c[0])), v.At, row(c[2]), row(c[3]))
	}
}

// P18.5.
func TestInsert(t *testing.T) {
	for _, c := range [][3]string{
		{"0x1", "0", "0x1"}, {"0x1", "-7", "7"}, {"4", "6", "2"}, {"4", "-8", "4"}, {"4", "0", "4"}, {"0; 0", "3", "3"}, {"4; 0", "-3", "1"}, {"0x0", "", "0x0"}, {"5x0", "", "0x0"},
		{"2 3; 0 5", "4 1", "2 3; 0 5"}, {"2 3; 0 5", "0 0", "2 3; 0 5"}, {"2 3; 0 5", "0 2", "2 0; 0 1"}, {"2 3; 0 5", "-2 -3", "2 3; 0 5"}, {"2 3; 0 5", "3 0", "1 0; 0 1"}, {"2 3; 0 5", "1 -1", "1 4; 0 5"},
		// A pivot before, between and behind those that are there.
		{"0 2 1", "1 1 1", "1 1 1; 0 2 1"}, {"1 5 5; 0 0 7", "0 -3 0", "1 2 5; 0 3 0; 0 0 7"}, {"1 2 5; 0 3 9; 0 0 0", "0 0 4", "1 2 1; 0 3 1; 0 0 4"}, {"0 0 2; 0 0 0", "0 -5 3", "0 5 1; 0 0 2"},
		// It lies along a row, and what is left of both is less than either.
		{"6 1", "4 0", "2 1; 0 2"}, {"4 0; 0 4", "1 1", "1 1; 0 4"}, {"4 0; 0 4", "2 2", "2 2; 0 4"}, {"3 0; 0 3", "2 2", "1 1; 0 3"},
	} {
		holdInsert(t, mx(c[0]), row(c[1]), mx(c[2]))
		v := made.Disguised(api.Mat{Rows: 1, Cols: len(row(c[1])), At: row(c[1])})
		holdInsert(t, made.Disguised(mx(c[0])), v.At, mx(c[2]))
	}
}
