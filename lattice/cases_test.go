package lattice_test

import (
	"testing"

	"trellis/api"
	"trellis/check"
	"trellis/lattice"
	"trellis/made"
	"trellis/mat"
	"trellis/zint"
)

// P21.1 and P21.6, worked out by hand.
func TestOne(t *testing.T) {
	for _, c := range []struct{ a, kernel, image, complement, saturate string }{
		// No rows, no columns, neither.
		{"0x0", "0x0", "0x0", "0x0", "0x0"}, {"0x1", "0x0", "0x1", "1", "0x1"}, {"0x3", "0x0", "0x3", "1 0 0; 0 1 0; 0 0 1", "0x3"}, {"1x0", "1", "0x0", "0x0", "0x0"}, {"3x0", "1 0 0; 0 1 0; 0 0 1", "0x0", "0x0", "0x0"},
		// Rank 0.
		{"0", "1", "0x1", "1", "0x1"}, {"0 0", "1", "0x2", "1 0; 0 1", "0x2"}, {"0; 0", "1 0; 0 1", "0x1", "1", "0x1"}, {"0 0; 0 0; 0 0", "1 0 0; 0 1 0; 0 0 1", "0x2", "1 0; 0 1", "0x2"},
		// One row, one column.
		{"-5", "0x1", "5", "0x1", "1"}, {"1", "0x1", "1", "0x1", "1"}, {"-4 6", "0x1", "4 -6", "3 2", "2 -3"}, {"0 -5", "0x1", "0 5", "1 0", "0 1"}, {"2 4 6", "0x1", "2 4 6", "1 1 -1; 0 3 -2", "1 2 3"}, {"6 10 15", "0x1", "6 10 15", "5 0 -2; 0 3 -2", "6 10 15"},
		{"3; 3", "1 -1", "3", "0x1", "1"}, {"6; 10; 15", "5 0 -2; 0 3 -2", "1", "0x1", "1"}, {"0; 5", "1 0", "5", "0x1", "1"}, {"5; 0", "0 1", "5", "0x1", "1"}, {"4; -6", "3 2", "2", "0x1", "1"},
		// As many rows as columns.
		{"1 0; 0 1", "0x2", "1 0; 0 1", "0x2", "1 0; 0 1"}, {"1 1; 1 1", "1 -1", "1 1", "1 -1", "1 1"}, {"1 1; 1 -1", "0x2", "1 1; 0 2", "0x2", "1 0; 0 1"}, {"4 6; 6 9", "3 -2", "2 3", "3 -2", "2 3"}, {"1 2 3; 4 5 6; 7 8 9", "1 -2 1", "1 2 3; 0 3 6", "1 -2 1", "1 0 -1; 0 1 2"}, {"0 2; 0 -3", "3 2", "0 1", "1 0", "0 1"},
		// More rows, more columns.
		{"1 2; 2 4; 0 1", "2 -1 0", "1 0; 0 1", "0x2", "1 0; 0 1"}, {"2 0; 0 2; 2 2; 0 0", "1 1 -1 0; 0 0 0 1", "2 0; 0 2", "0x2", "1 0; 0 1"}, {"2 4; 3 6; 5 10; 0 0", "1 1 -1 0; 0 5 -3 0; 0 0 0 1", "1 2", "2 -1", "1 2"},
		{"1 2 3; 3 2 1", "0x2", "1 2 3; 0 4 8", "1 -2 1", "1 0 -1; 0 1 2"}, {"2 0 0; 0 3 0", "0x2", "2 0 0; 0 3 0", "0 0 1", "1 0 0; 0 1 0"}, {"2 4 6; 3 6 9", "3 -2", "1 2 3", "1 1 -1; 0 3 -2", "1 2 3"}, {"0 0 2 2; 0 0 0 4", "0x2", "0 0 2 2; 0 0 0 4", "1 0 0 0; 0 1 0 0", "0 0 1 0; 0 0 0 1"},
	} {
		for _, a := range []api.Mat{mx(c.a), made.Disguised(mx(c.a))} {
			check.Mat(t, of("Kernel", a), holdKernel(t, a), mx(c.kernel))
			check.Mat(t, of("Image", a), holdImage(t, a), mx(c.image))
			check.Mat(t, of("Complement", a), holdComplement(t, a), mx(c.complement))
			check.Mat(t, of("Saturate", a), holdSaturate(t, a), mx(c.saturate))
		}
	}
}

// P21.2, worked out by hand.
func TestSolve(t *testing.T) {
	for _, c := range [][3]string{
		{"0x0", "", ""}, {"0x1", "0", ""}, {"0x3", "0 0 0", ""}, {"1x0", "", "0"}, {"2x0", "", "0 0"}, {"0", "0", "0"}, {"0 0; 0 0", "0 0", "0 0"},
		{"3", "12", "4"}, {"3", "-12", "-4"}, {"-3", "12", "-4"}, {"3", "0", "0"}, {"2 -4", "-6 12", "-3"}, {"0 5", "0 5", "1"},
		// The kernel has 1 1 and so leaves 0 in the first place; or 0 1, which leaves 0 in the second.
		{"1; -1", "7", "0 -7"}, {"0; 5", "10", "0 2"}, {"5; 0", "-10", "-2 0"}, {"1; 1; 1", "7", "0 0 7"}, {"1; 1; 1", "0", "0 0 0"},
		// The kernel has 5 0 -2 and 0 3 -2: of the first the numbers 0 to 4 are left, of the second 0 to 2.
		{"6; 10; 15", "1", "1 1 -1"}, {"6; 10; 15", "0", "0 0 0"}, {"6; 10; 15", "-1", "4 2 -3"}, {"6; 10; 15", "44", "4 2 0"}, {"6; 10; 15", "30", "0 0 2"},
		{"1 2; 2 4; 0 1", "3 7", "1 1 1"}, {"1 2; 2 4; 0 1", "-3 0", "1 -2 6"}, {"1 0; 0 1", "-4 9", "-4 9"}, {"1 1; 1 -1", "4 2", "3 1"}, {"4 6; 6 9", "2 3", "2 -1"}, {"4 6; 6 9", "-10 -15", "2 -3"},
		{"2 4; 3 6; 5 10; 0 0", "1 2", "0 2 -1 0"}, {"1 2 3; 4 5 6", "-2 -1 0", "2 -1"}, {"0 0 2 2; 0 0 0 4", "0 0 -2 6", "-1 2"},
	} {
		a, b := mx(c[0]), row(c[1])
		check.Ints(t, at("Solve", a, b), holdSolved(t, a, b), row(c[2]))
		check.Ints(t, at("Solve", a, b), holdSolved(t, made.Disguised(a), disguised(b)), row(c[2]))
	}
}

// P21.3: rows that lie beside a lattice, for each of the reasons.
func TestRefute(t *testing.T) {
	for a, rows := range map[string][]string{
		// Beside the span.
		"0x1": {"1", "-1", "2", "-5", "6", "12", "60", "232792560", "-232792560"}, "0": {"1", "-6"}, "0; 0": {"2"}, "0x3": {"0 0 5", "0 -2 0", "6 6 6"}, "0 0": {"1 0", "0 1", "-6 4"}, "1 0": {"0 1", "7 -3", "7 6", "0 60"}, "0 1": {"1 0", "-2 5"}, "1 2": {"2 1", "1 3", "2 5"}, "2 4": {"1 3", "1 2", "3 6", "0 2", "2 3"}, "1 2 3; 4 5 6": {"0 0 1", "1 2 4", "7 8 10", "0 3 5"}, "1 1; 2 2; 3 3": {"1 0", "6 0", "-6 6"},
		// In the span.
		"3": {"1", "2", "-1", "-2", "4", "300000001"}, "2; 4": {"7", "-1"}, "6; 10": {"1", "-3"}, "2 0; 0 3": {"1 0", "0 1", "2 1", "1 3", "-1 2"}, "1 1; 1 -1": {"1 0", "0 1", "2 1", "-5 8"}, "0 2": {"0 1", "0 -7"}, "2 1; 0 2": {"0 1", "1 0", "1 1", "2 0", "2 2", "-1 5"}, "1 2; 3 4": {"0 1", "1 1", "5 7"}, "0 0 2 2; 0 0 0 4": {"0 0 1 1", "0 0 2 4", "0 0 0 2", "0 1 2 2", "1 0 0 0"},
		// Where a whole product above takes nothing, something, or something that has a divisor with the pivot.
		"2 1 7; 0 3 5": {"1 1 1", "0 1 5", "0 0 1", "0 0 6", "2 1 8"}, "4 2 1; 0 4 2; 0 0 4": {"0 0 1", "0 0 2", "0 0 3", "0 2 1", "0 1 0", "0 3 3", "2 1 0", "1 0 0", "3 3 3", "4 2 2", "4 6 4"}, "6 3 2; 0 6 3; 0 0 6": {"0 0 1", "0 0 2", "0 0 3", "0 3 0", "0 2 0", "3 0 0", "2 1 0", "5 5 5"}, "1 0 2 0; 0 2 1 3; 0 0 0 5": {"0 0 1 0", "0 0 6 0", "0 0 0 1", "0 1 0 0", "1 1 2 1", "2 2 5 4"},
	} {
		for _, b := range rows {
			holdRefuted(t, mx(a), row(b))
			holdRefuted(t, made.Disguised(mx(a)), disguised(row(b)))
		}
	}
}

// P21.3: numbers beside the span that all numbers to far beyond a few divide.
func TestRefuteOfFactorials(t *testing.T) {
	factorial := num(1)
	for n := 1; n <= 200; n++ {
		factorial = zint.Mul(factorial, num(n))
	}
	power, _ := zint.Pow(num(2), 256)
	for _, n := range []api.Int{factorial, zint.Neg(factorial), power, zint.Mul(power, factorial), zint.Mul(factorial, factorial)} {
		for _, text := range []string{"0x1", "0"} {
			holdRefuted(t, mx(text), []api.Int{n})
		}
		for _, text := range []string{"0x2", "3 0", "5 -7"} {
			holdRefuted(t, mx(text), []api.Int{num(0), n})
		}
		holdSolved(t, mx("199"), []api.Int{zint.Mul(n, num(199))})
	}
}

// P21.4, worked out by hand.
func TestIndex(t *testing.T) {
	for _, c := range []struct {
		a, b string
		want int
	}{
		{"0x0", "0x0", 1}, {"3x0", "0x0", 1}, {"0x0", "2x0", 1}, {"0x1", "0x1", 1}, {"0x1", "0; 0", 1}, {"0", "0x1", 1}, {"0 0; 0 0", "0x2", 1},
		{"0x1", "1", 0}, {"0", "-7", 0}, {"0x2", "0 3", 0}, {"0 0", "1 0; 0 1", 0}, {"2 0", "1 0; 0 1", 0}, {"1 1 0; 2 2 0", "1 0 0; 0 1 0", 0}, {"2 0; 0 0", "2 0; 0 5", 0},
		{"6", "2", 3}, {"-6", "-6", 1}, {"6; 9", "3", 1}, {"12; 18", "4; 6", 3}, {"4 6", "2 3", 2}, {"6 -9; 4 -6", "2 -3", 1}, {"0 0 10", "0 0 5", 2},
		{"2 0; 0 3", "1 0; 0 1", 6}, {"1 2; 3 4", "1 0; 0 1", 2}, {"2 0; 0 2", "1 1; 0 2", 2}, {"4 0; 0 4", "2 0; 0 1", 8}, {"2 1; 0 3", "2 1; 0 3", 1}, {"10 0; 0 10", "1 3; 0 10", 10}, {"3 3 0; 0 6 6", "1 1 0; 0 2 2", 9}, {"1 2 3; 4 5 6", "1 0 -1; 0 1 2", 3}, {"0 2 0; 0 0 2; 2 0 0", "1 0 0; 0 1 0; 0 0 1", 8}, {"2 2; 4 4; 6 0", "2 0; 0 2; 2 2", 3},
	} {
		holdIndex(t, mx(c.a), mx(c.b), num(c.want))
		holdIndex(t, made.Disguised(mx(c.a)), made.Disguised(mx(c.b)), num(c.want))
	}
}

// P21.4: what does not lie in a lattice, though some of it does, or though that has a greater rank.
func TestOutside(t *testing.T) {
	for _, c := range [][2]string{
		{"1", "0x1"}, {"1", "0"}, {"0 1", "0x2"}, {"1", "2"}, {"3", "2"}, {"4; 6", "4"}, {"4; 6; 9", "2"}, {"1 0", "2 0"}, {"1 0", "0 1"}, {"1 0; 0 1", "1 0"}, {"2 0; 0 1", "1 0; 0 2"}, {"2 3", "4 6"}, {"1 1", "2 0; 0 2"}, {"2 2; 1 0", "1 1; 0 2"}, {"4 0; 0 6; 2 2", "4 0; 0 6"}, {"1 2 3", "1 2 4; 0 0 2"}, {"0 0 1", "1 0 0; 0 1 0"},
	} {
		holdOutside(t, mx(c[0]), mx(c[1]))
		holdOutside(t, made.Disguised(mx(c[0])), made.Disguised(mx(c[1])))
	}
}

// P21.5, worked out by hand.
func TestTwo(t *testing.T) {
	for _, c := range [][4]string{
		{"0x0", "0x0", "0x0", "0x0"}, {"3x0", "0x0", "0x0", "0x0"}, {"2x0", "5x0", "0x0", "0x0"}, {"0x2", "0x2", "0x2", "0x2"}, {"0 0", "0x2", "0x2", "0x2"}, {"0x2", "-3 4", "3 -4", "0x2"}, {"0; 0", "6", "6", "0x1"},
		{"4", "6", "2", "12"}, {"-4", "6", "2", "12"}, {"4; 6", "9", "1", "18"}, {"5", "-5", "5", "5"}, {"6; 10; 15", "7", "1", "7"}, {"2 4", "3 6", "1 2", "6 12"}, {"-2 -4", "3 6", "1 2", "6 12"}, {"2 4", "2 5", "2 0; 0 1", "0x2"},
		{"2 0; 0 2", "1 1", "1 1; 0 2", "2 2"}, {"1 1; 0 2", "2 0; 0 2", "1 1; 0 2", "2 0; 0 2"}, {"2 0; 0 3", "3 0; 0 2", "1 0; 0 1", "6 0; 0 6"}, {"1 2; 0 5", "1 3; 0 5", "1 0; 0 1", "5 0; 0 5"}, {"1 0; 0 1", "3 5", "1 0; 0 1", "3 5"}, {"1 0; 0 4", "1 2; 0 4", "1 0; 0 2", "2 0; 0 4"}, {"2 1; 0 2", "2 0; 0 2", "2 0; 0 1", "4 0; 0 2"}, {"4 1; 0 6", "6 1; 0 4", "2 0; 0 1", "24 0; 0 12"},
		{"1 0 0; 0 2 0", "0 1 0; 0 0 3", "1 0 0; 0 1 0; 0 0 3", "0 2 0"}, {"1 2 3; 4 5 6", "7 8 10", "1 2 0; 0 3 0; 0 0 1", "0x3"}, {"1 2 3; 4 5 6", "7 8 9", "1 2 3; 0 3 6", "7 8 9"}, {"1 2 3; 4 5 6", "1 1 1", "1 0 -1; 0 1 2", "3 3 3"}, {"0 2 0; 0 0 2", "2 2 0; 0 3 3", "2 0 0; 0 1 1; 0 0 2", "0 6 6"}, {"1 1 0; 0 0 2", "2 2 2; 0 0 3", "1 1 0; 0 0 1", "2 2 2; 0 0 6"},
	} {
		a, b := mx(c[0]), mx(c[1])
		holdTwo(t, a, b)
		holdSum(t, a, made.Disguised(b), mx(c[2]))
		holdMeet(t, made.Disguised(a), b, mx(c[3]))
	}
}

// P21.1 to P21.6: each integer, in whatever form, as the only entry.
func TestSingles(t *testing.T) {
	all := append(check.Integers(), check.Zeros()...)
	for _, n := range all {
		a := api.Mat{Rows: 1, Cols: 1, At: []api.Int{n}}
		holdOne(t, a)
		size := api.Mat{Rows: 1, Cols: 1, At: []api.Int{zint.Abs(n)}}
		if zint.Sign(n) == 0 {
			size = mx("0x1")
		}
		check.Mat(t, of("Image", a), imageOf(t, a), size)
		for _, m := range check.Integers() {
			divides := zint.Sign(m) == 0
			if zint.Sign(n) != 0 {
				_, e := zint.Exact(m, n)
				divides = e == api.OK
			}
			holdRow(t, a, []api.Int{m}, divides)
			holdTwo(t, a, api.Mat{Rows: 1, Cols: 1, At: []api.Int{m}})
		}
	}
}

// P21.1 to P21.6 at zeros in every form, of the greatest shapes too.
func TestZeros(t *testing.T) {
	for _, shape := range [][2]int{{1, 1}, {2, 3}, {3, 2}, {64, 64}, {64, 1}, {1, 64}, {64, 0}, {0, 64}} {
		rows, cols := shape[0], shape[1]
		a := check.Filled(rows, cols, check.Zeros())
		check.Mat(t, of("Kernel of zeros", a), holdKernel(t, a), unitOf(rows))
		check.Mat(t, of("Image of zeros", a), holdImage(t, a), api.Mat{Cols: cols})
		check.Mat(t, of("Complement of zeros", a), holdComplement(t, a), unitOf(cols))
		check.Mat(t, of("Saturate of zeros", a), holdSaturate(t, a), api.Mat{Cols: cols})
		zeros := check.Filled(1, cols, check.Zeros()).At
		check.Ints(t, of("Solve of zeros", a), holdSolved(t, a, zeros), make([]api.Int, rows))
		for place := range cols {
			b := make([]api.Int, cols)
			b[place] = minus(0, 6, 0)
			holdRefuted(t, a, b)
		}
		for _, other := range []api.Mat{unitOf(cols), check.Filled(2, cols, check.Zeros()), {Cols: cols}} {
			image, _ := lattice.Image(other)
			holdSum(t, a, other, image)
			holdMeet(t, a, other, api.Mat{Cols: cols})
			index := num(1)
			if image.Rows > 0 {
				index = num(0)
				holdOutside(t, other, a)
			}
			holdIndex(t, a, other, index)
		}
	}
}

// P21.1 to P21.6: a unit matrix has all rows in its lattice.
func TestUnits(t *testing.T) {
	for _, n := range []int{0, 1, 2, 5, 64} {
		unit := unitOf(n)
		check.Mat(t, of("Kernel of the unit matrix", unit), holdKernel(t, unit), api.Mat{Cols: n})
		check.Mat(t, of("Saturate of the unit matrix", unit), holdSaturate(t, unit), unit)
		b := check.Filled(1, n, nums(-3, 0, 7)).At
		check.Ints(t, of("Solve of the unit matrix", unit), holdSolved(t, unit, b), b)
		double, _ := mat.Scale(num(2), unit)
		index, _ := zint.Pow(num(2), n)
		holdIndex(t, double, unit, index)
		holdSum(t, double, unit, unit)
		holdMeet(t, double, unit, double)
	}
}
