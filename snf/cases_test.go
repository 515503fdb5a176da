package snf_test

import (
	"testing"

	"trellis/api"
	"trellis/check"
	"trellis/made"
	"trellis/mat"
	"trellis/zint"
)

// P20.1 to P20.4, worked out by hand.
func TestForm(t *testing.T) {
	for a, want := range map[string]string{
		"0": "0", "1": "1", "-1": "1", "6": "6", "-6": "6", "0 0; 0 0": "0 0; 0 0", "0; 0; 0": "0; 0; 0",
		// One row, one column: the greatest common divisor.
		"-2 4": "2 0", "0 -3 5": "1 0 0", "6 10 15": "1 0 0", "0 0 4": "4 0 0", "-12 18": "6 0", "4; 6": "2; 0", "0; 0; -7": "7; 0; 0", "-4; 0; 8": "4; 0; 0",
		// Numbers on the diagonal alone, that do not divide one another, or in another order.
		"2 0; 0 1": "1 0; 0 2", "-2 0; 0 -2": "2 0; 0 2", "12 0; 0 18": "6 0; 0 36", "0 0; 0 -4": "4 0; 0 0", "6 0 0; 0 10 0; 0 0 15": "1 0 0; 0 30 0; 0 0 30", "4 0 0; 0 0 0; 0 0 6": "2 0 0; 0 12 0; 0 0 0", "8 0 0; 0 4 0; 0 0 2": "2 0 0; 0 4 0; 0 0 8",
		// Elsewhere alone.
		"0 1; 1 0": "1 0; 0 1", "0 2; 3 0": "1 0; 0 6", "0 0 2; 0 3 0; 5 0 0": "1 0 0; 0 1 0; 0 0 30", "0 4 0; 0 0 6": "2 0 0; 0 12 0", "0 0; 4 0; 0 6": "2 0; 0 12; 0 0",
		// The divisor of the entries, and the determinant over it.
		"1 2; 3 4": "1 0; 0 2", "2 1; 0 2": "1 0; 0 4", "2 2; 0 2": "2 0; 0 2", "4 2; 0 4": "2 0; 0 8", "3 1; 1 3": "1 0; 0 8", "1 2; 2 4": "1 0; 0 0", "4 6; 6 9": "1 0; 0 0", "-6 4; 4 -6": "2 0; 0 10", "1 -1; 1 1": "1 0; 0 2",
		// More rows than columns and fewer.
		"4 0; 0 6; 2 3": "1 0; 0 12; 0 0", "1 2; 3 4; 5 6": "1 0; 0 2; 0 0", "1 3 5; 2 4 6": "1 0 0; 0 2 0", "2 4; 4 8; 1 1": "1 0; 0 2; 0 0", "2 4 4; 4 8 8": "2 0 0; 0 0 0", "2 0; 0 2; 2 2; 0 0": "2 0; 0 2; 0 0; 0 0", "0 0 4 6; 0 0 6 4": "2 0 0 0; 0 10 0 0",
		// The divisor of the minors of two rows lies beyond each pair of neighbours.
		"2 4 4; -6 6 12; 10 -4 -16": "2 0 0; 0 6 0; 0 0 12", "1 2 3; 4 5 6; 7 8 9": "1 0 0; 0 3 0; 0 0 0", "2 1 0; 0 2 1; 0 0 2": "1 0 0; 0 1 0; 0 0 8", "2 0 0; 0 2 0; 1 1 1": "1 0 0; 0 2 0; 0 0 2", "6 0 0; 0 6 0; 2 3 1": "1 0 0; 0 6 0; 0 0 6", "2 -1 0; -1 2 -1; 0 -1 2": "1 0 0; 0 1 0; 0 0 4", "3 -1 -1; -1 3 -1; -1 -1 3": "1 0 0; 0 4 0; 0 0 4", "2 -1 -1; -1 2 -1; -1 -1 2": "1 0 0; 0 3 0; 0 0 0",
	} {
		for _, m := range []api.Mat{mx(a), made.Disguised(mx(a))} {
			holdForm(t, m, mx(want))
			check.Mat(t, of("D of Full", m), holdFull(t, m).D, mx(want))
			holdForm(t, made.Turned(m), made.Turned(mx(want)))
			holdSame(t, m, mx(want), true)
		}
	}
}

// P20.7.
func TestSame(t *testing.T) {
	// Those of one line have the same form, those of two lines have not.
	all := [][]string{
		{"0x0"}, {"0x1"}, {"1x0"}, {"0x2"}, {"2x0"}, {"0"}, {"1", "-1"}, {"2", "-2"}, {"0 0"}, {"0; 0"},
		{"1 0", "0 1", "-1 0", "2 3", "5 -7", "1 1000"}, {"1; 0", "0; -1", "2; 3"}, {"2 0", "0 -2", "4 6"},
		{"0 0; 0 0"}, {"1 0; 0 0", "0 0; 0 1", "1 2; 2 4", "6 10; -9 -15"}, {"2 0; 0 0", "4 -6; 8 -12"},
		{"1 0; 0 1", "0 1; 1 0", "2 1; 1 1", "-1 5; 0 1"}, {"1 0; 0 4", "2 1; 0 2", "4 0; 0 1", "1 0; 0 -4"}, {"2 0; 0 2", "2 2; 0 2", "0 -2; 2 0", "2 100; 0 2"}, {"1 0; 0 6", "2 0; 0 3", "3 0; 0 2", "6 5; 0 1", "-1 0; 0 6"}, {"1 0; 0 3"},
		{"1 0 0; 0 2 0", "2 0 0; 0 0 1", "1 3 5; 2 4 6"}, {"1 0; 0 2; 0 0", "1 2; 3 4; 5 6"},
	}
	for i, line := range all {
		for k, other := range all {
			for _, one := range line {
				for _, two := range other {
					holdSame(t, mx(one), made.Disguised(mx(two)), i == k)
				}
			}
		}
	}
}

// P20.1 to P20.7: each integer, in whatever form, as the only entry.
func TestSingles(t *testing.T) {
	for _, n := range append(check.Integers(), check.Zeros()...) {
		a := api.Mat{Rows: 1, Cols: 1, At: []api.Int{n}}
		size := api.Mat{Rows: 1, Cols: 1, At: []api.Int{zint.Abs(n)}}
		holdForm(t, a, size)
		check.Mat(t, of("D of Full", a), holdFull(t, a).D, size)
		holdIsForm(t, a, zint.Sign(n) >= 0)
		holdChain(t, a.At, size.At)
		for _, m := range check.Integers() {
			other := api.Mat{Rows: 1, Cols: 1, At: []api.Int{m}}
			holdSame(t, a, other, zint.CmpAbs(n, m) == 0)
		}
	}
}

// P20.1 to P20.7: zeros in every form are zeros, and one number among them is all there is.
func TestZeros(t *testing.T) {
	for _, shape := range [][2]int{{1, 1}, {2, 3}, {3, 2}, {8, 8}, {64, 64}, {64, 1}, {1, 64}, {64, 63}} {
		rows, cols := shape[0], shape[1]
		a := check.Filled(rows, cols, check.Zeros())
		zero, _ := mat.Zero(rows, cols)
		holdForm(t, a, zero)
		holdIsForm(t, a, true)
		full := holdFull(t, a)
		check.Mat(t, of("D of Full of zeros", a), full.D, zero)
		holdSame(t, a, zero, true)
		divisors := make([]api.Int, min(rows, cols)+1)
		divisors[0] = num(1)
		holdDivisors(t, a, divisors)
		for _, place := range []int{0, len(a.At) / 2, len(a.At) - 1} {
			one := check.Filled(rows, cols, check.Zeros())
			one.At[place] = minus(0, 3, 0)
			want := diagOf(rows, cols, []api.Int{plus(0, 3)})
			holdForm(t, one, want)
			holdIsForm(t, one, false)
			check.Mat(t, of("D of Full of one number", one), holdFull(t, one).D, want)
			holdSame(t, one, zero, false)
			holdSame(t, one, want, true)
		}
	}
}
