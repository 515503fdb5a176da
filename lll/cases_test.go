package lll_test

import (
	"testing"

	"trellis/api"
	"trellis/check"
	"trellis/made"
	"trellis/zint"
)

// P23.1, worked out by hand.
func TestGram(t *testing.T) {
	for _, c := range [][2]string{
		{"0x0", "0x0"}, {"0x3", "0x0"}, {"1x0", "0"}, {"3x0", "0 0 0; 0 0 0; 0 0 0"}, {"0", "0"}, {"-3", "9"}, {"1; -2", "1 -2; -2 4"}, {"1 -2", "5"}, {"3 -4 12", "169"},
		{"0 0; 0 0", "0 0; 0 0"}, {"1 0; 0 -1", "1 0; 0 1"}, {"1 2; 2 4", "5 10; 10 20"}, {"1 2; -1 -2", "5 -5; -5 5"}, {"2 1 0; 0 -1 3", "5 -1; -1 10"}, {"1 1; 1 -1; 2 0", "2 0 2; 0 2 2; 2 2 4"},
	} {
		check.Mat(t, of("Gram", mx(c[0])), holdGram(t, mx(c[0])), mx(c[1]))
		check.Mat(t, of("Gram", mx(c[0])), holdGram(t, made.Disguised(mx(c[0]))), mx(c[1]))
	}
}

// P23.2, worked out by hand.
func TestDets(t *testing.T) {
	for _, c := range [][2]string{
		{"0x0", "1"}, {"0x64", "1"}, {"1x0", "1 0"}, {"3x0", "1 0 0 0"}, {"0", "1 0"}, {"0 0 0", "1 0"}, {"-3", "1 9"}, {"1; -2", "1 1 0"}, {"3 4", "1 25"},
		{"0 0; 1 0", "1 0 0"}, {"1 0; 0 0", "1 1 0"}, {"1 0; 0 0; 0 1", "1 1 0 0"}, {"1 2; 1 2", "1 5 0"}, {"2 0; 0 3", "1 4 36"}, {"0 3; 2 0", "1 9 36"}, {"2 0; 1 2", "1 4 16"}, {"1 1; 1 -1", "1 2 4"}, {"1 1; 1 -1; 5 7", "1 2 4 0"},
		{"1 2 3; 4 5 6", "1 14 54"}, {"1 2 3; 4 5 6; 7 8 9", "1 14 54 0"}, {"1 1 1; -1 0 2; 3 5 6", "1 3 14 9"}, {"1 1 0; 0 1 1", "1 2 3"}, {"1 -1 0 0; 0 1 -1 0; 0 0 1 -1", "1 2 3 4"},
	} {
		check.Ints(t, of("Dets", mx(c[0])), holdDets(t, mx(c[0])), row(c[1]))
		check.Ints(t, of("Dets", mx(c[0])), holdDets(t, made.Disguised(mx(c[0]))), row(c[1]))
	}
}

// P23.3, worked out by hand.
func TestIsReduced(t *testing.T) {
	for want, all := range map[bool][]string{
		true: {
			// Nothing to be met.
			"0x0", "0x1", "0x64", "1", "-7", "0 5", "0 0 -1", "3 4 5",
			// Whatever mu is not beyond 1/2, to either side; and where it is 1/2 sharp.
			"1 0; 0 1", "0 1; 1 0", "-1 0; 0 -1", "2 0; 1 2", "2 0; -1 2", "5 0; 2 5", "5 0; -2 5", "100 0; 50 100", "100 0; -50 100",
			// The second condition sharp: 3 against 3/4 times 4, with mu = 1/2 or -1/2 it is 2 against 1/2 times 4, with mu = 1/3 it is 23 against 23/36 times 36.
			"2 0 0 0; 0 1 1 1", "2 0 0 0; 1 1 1 0", "2 0 0 0; -1 1 1 0", "6 0 0 0 0; 2 3 3 2 1",
			// Each row is held against the one above it alone: 16, 12, 9; and longer ones may follow.
			"4 0 0 0 0; 0 2 2 2 0; 0 0 0 0 3", "1 0 0; 0 2 0; 0 0 3", "1 0; 0 1000", "2 0 0; 0 2 0; 1 1 2", "2 0 0; 0 2 0; 1 -1 2", "2 0 0; 1 2 0; 1 1 2", "2 0 0; 1 2 0; 0 1 2",
			"1 1 0; 0 1 -1", "1 0 1; 0 2 0; -1 1 2",
		},
		false: {
			// Rows that are not independent.
			"0", "0 0", "1x0", "2x0", "64x0", "0 0; 1 0", "1 0; 0 0", "1; 0", "1; 1", "2; 3", "1 0; 2 0", "1 0; 0 1; 0 0", "0 0; 1 0; 0 1", "1 0; 0 1; 1 1", "1 0 0; 0 1 0; 0 0 0", "1 1 0; 1 -1 0; 2 0 0",
			// mu beyond 1/2, to either side, of the row above or of one further up.
			"1 0; 1 1", "4 0; 3 4", "4 0; -3 4", "100 0; 51 100", "100 0; -51 100", "2 0 0; 0 2 0; 2 0 2", "2 0 0; 0 2 0; -2 0 2", "2 0 0; 0 2 0; 0 3 2", "4 0 0; 0 4 0; 3 1 4", "100 0 0; 0 100 0; 51 50 100", "2 0 0; 1 2 0; 0 3 2", "1 0 1; 0 1 0; -1 1 2", "1 -1 0 0; 0 1 -1 0; 0 0 1 -1",
			// The second condition missed by little: 2 against 3, 11 against 12, 1 against 2, 22 against 23, 8 against 9.
			"2 0 0; 0 1 1", "4 0 0 0; 0 3 1 1", "2 0; 1 1", "2 0; -1 1", "6 0 0 0 0; 2 3 3 2 0", "4 0 0 0 0 0; 0 2 2 2 0 0; 0 0 0 0 2 2", "3 0; 1 2", "1 0 0; 0 3 0; 0 0 1", "1 0 0; 0 2 0; 0 1 1",
			"0 5; 1 0", "1 2; 3 0",
		},
	} {
		for _, text := range all {
			holdIsReduced(t, mx(text), want)
			holdIsReduced(t, made.Disguised(mx(text)), want)
			if b := mx(text); b.Rows <= few {
				check.Same(t, "by the chapter's words: "+text, isReducedByWords(b), want)
			}
		}
	}
}

// P23.4: matrices of all kinds of little shapes, with what there is no choice in.
func TestReduce(t *testing.T) {
	for _, c := range []struct {
		a string
		// squares are those of the rows of a reduced basis, where all have the same.
		squares string
	}{
		// No rows, no columns, rank 0.
		{"0x0", ""}, {"0x5", ""}, {"0x64", ""}, {"1x0", ""}, {"64x0", ""}, {"0", ""}, {"0 0", ""}, {"0; 0", ""}, {"0 0 0; 0 0 0", ""},
		// Rank 1.
		{"1", "1"}, {"-7", "49"}, {"2; 3", "1"}, {"6; 10; 15", "1"}, {"0; 4; 6; 0", "4"}, {"4; 4; 4", "16"}, {"0 0 3 4", "25"}, {"6 8; 9 12", "25"}, {"0 0; 6 8; 0 0; -9 -12", "25"}, {"1 2; 2 4", "5"}, {"2 4; -4 -8; 6 12", "20"},
		// Rank 2.
		{"1 0; 0 1", "1 1"}, {"1 0; 4 1", "1 1"}, {"4 1; 1 0", "1 1"}, {"1000 1; 999 1", "1 1"}, {"2 0; 1 2", "4 5"}, {"6 4; 4 6", "8 52"}, {"1 0; 0 0; 0 1", "1 1"}, {"0 0; 0 2; 0 3; 5 0", "1 25"}, {"12 2; 13 4; 9 3", "1 1"}, {"1 2; 2 4; 5 7", "2 5"},
		{"1 1 1; 1 2 4; 2 3 5", "3 5"}, {"1 2 3; 4 5 6; 7 8 9", "5 11"}, {"0 5 0; 0 0 3", "9 25"}, {"4 0; 6 0; 0 9; 0 6; 0 0", "4 9"},
		// Rank 3 and more.
		{"1 1 1; -1 0 2; 3 5 6", "1 2 5"}, {"1 0 0; 0 1 0; 0 0 1", "1 1 1"}, {"1 7 9; 0 1 8; 0 0 1", "1 1 1"}, {"2 0 0; 0 3 0; 0 0 5", "4 9 25"}, {"0 0 5; 0 3 0; 2 0 0", "4 9 25"}, {"2 4 4; -6 6 12; 10 -4 -16", ""}, {"3 1 4; 1 5 9; 2 6 5; 3 5 8", ""}, {"1 0 0 0; 0 0 1 0; 0 0 0 1; 1 0 1 1; 0 1 0 0", "1 1 1 1"},
		// A sum of others among the rows, at each place.
		{"3 3 0; 1 2 0; 2 1 0; 0 0 1", "1 2 5"}, {"1 2 0; 3 3 0; 2 1 0; 0 0 1", "1 2 5"}, {"1 2 0; 2 1 0; 3 3 0; 0 0 1", "1 2 5"}, {"1 2 0; 2 1 0; 0 0 1; 3 3 1", "1 2 5"},
	} {
		for _, a := range []api.Mat{mx(c.a), made.Disguised(mx(c.a))} {
			b, _ := holdReduce(t, a)
			if c.squares == "" {
				continue
			}
			product, want := num(1), num(1)
			for i, n := range row(c.squares) {
				product = zint.Mul(product, squareOf(lineOf(b, i)))
				want = zint.Mul(want, n)
			}
			// The longer rows may come with multiples of the shorter ones, but not far.
			check.Same(t, of("are the rows of b short", a), zint.Cmp(product, zint.Mul(num(1<<(b.Rows*(b.Rows-1)/2)), want)) <= 0, true)
		}
	}
}

// P23.5, worked out by hand.
func TestNear(t *testing.T) {
	for _, c := range [][3]string{
		// No rows, no columns: the zero row.
		{"0x0", "", ""}, {"0x1", "-7", "0"}, {"0x3", "1 2 -3", "0 0 0"},
		// One row, one number: to the nearer side, and of two equally near ones to the even one.
		{"1", "-5", "-5"}, {"4", "0", "0"}, {"4", "1", "0"}, {"4", "2", "0"}, {"4", "3", "4"}, {"4", "5", "4"}, {"4", "6", "8"}, {"4", "7", "8"}, {"4", "10", "8"}, {"4", "14", "16"}, {"4", "-1", "0"}, {"4", "-2", "0"}, {"4", "-3", "-4"}, {"4", "-6", "-8"}, {"4", "-10", "-8"}, {"4", "-14", "-16"},
		{"-4", "2", "0"}, {"-4", "3", "4"}, {"-4", "6", "8"}, {"-4", "-6", "-8"}, {"-4", "-10", "-8"}, {"3", "4", "3"}, {"3", "5", "6"}, {"3", "-4", "-3"}, {"3", "-5", "-6"},
		// One row, more numbers: along the row alone.
		{"3 4", "0 0", "0 0"}, {"3 4", "4 -3", "0 0"}, {"3 4", "3 1", "3 4"}, {"3 4", "0 3", "0 0"}, {"3 4", "-2 -2", "-3 -4"}, {"1 1", "1 0", "0 0"}, {"1 1", "2 1", "2 2"}, {"1 1", "-1 0", "0 0"}, {"1 1", "-2 -1", "-2 -2"}, {"1 1", "3 2", "2 2"}, {"2 0 0", "3 50 -50", "4 0 0"}, {"2 0 0", "1 50 -50", "0 0 0"},
		// Rows at a right angle.
		{"2 0; 0 2", "1 -1", "0 0"}, {"2 0; 0 2", "3 -3", "4 -4"}, {"2 0; 0 2", "2 4", "2 4"}, {"0 2; 2 0", "-3 5", "-4 4"}, {"1 0 0; 0 0 3", "7 9 5", "7 0 6"}, {"3 0; 0 5", "-4 7", "-3 5"},
		// Slant ones: the last row is taken first, and what is left goes on to the one above.
		{"1 0; 1 2", "0 1", "0 0"}, {"1 0; 1 2", "0 2", "0 2"}, {"2 0; 1 2", "0 1", "0 0"}, {"2 0; 1 2", "1 1", "0 0"}, {"2 0; 1 2", "0 3", "0 4"}, {"2 0; 1 2", "3 3", "2 4"}, {"2 0; 1 2", "-2 -3", "-2 -4"}, {"2 0; -1 2", "0 2", "-1 2"},
		// As the rows are, not as a reduced basis would be: their ci are 4 0 and 0 3, and 10 3 comes with -2 times the first row, as -10/4 goes to the even number.
		{"4 0; 10 3", "0 2", "2 3"}, {"4 0; 10 3", "0 1", "0 0"}, {"4 0; 10 3", "10 3", "10 3"}, {"4 0; 10 3", "1 -2", "2 -3"},
		// The other way up the ci are others: of 4 0 it is 36/109 -120/109, into which 0 2 goes -5/3 times.
		{"10 3; 4 0", "0 2", "2 3"}, {"1 0; 100 1", "50 0", "50 0"}, {"100 1; 1 0", "50 0", "50 0"}, {"0 3; 1 1", "0 2", "0 3"}, {"1 1; 0 3", "0 2", "0 3"},
		{"1 1 1; -1 0 2; 3 5 6", "0 0 1", "0 0 0"},
	} {
		b, v := mx(c[0]), row(c[1])
		check.Ints(t, at("Near", b, v), holdNear(t, b, v), row(c[2]))
		check.Ints(t, at("Near", b, v), holdNear(t, made.Disguised(b), disguised(v)), row(c[2]))
	}
}

// P23.6, worked out by hand.
func TestShortest(t *testing.T) {
	for _, c := range []struct {
		a    string
		want int
	}{
		{"1", 1}, {"-7", 49}, {"0 5", 25}, {"6; 10", 4}, {"6; 10; 15", 1}, {"0; 0; -9; 6", 9}, {"3 4", 25}, {"6 8; 9 12", 25}, {"1 2; 2 4", 5}, {"0 0; 0 7; 0 0", 49},
		{"1 0; 0 1", 1}, {"2 0; 1 2", 4}, {"6 4; 4 6", 8}, {"1000 1; 999 1", 1}, {"2 1; 1 2", 2}, {"5 0; 0 7", 25}, {"7 0; 0 5", 25}, {"4 1; 1 4", 17}, {"5 3; 3 5", 8}, {"12 2; 13 4", 5}, {"1 0 0; 0 1 0; 1 1 0", 1}, {"10 0; 3 1", 10}, {"34 0; 13 1", 34}, {"89 0; 34 1", 89}, {"1 100; 0 101", 2},
		{"5 0 0; 0 5 0; 3 4 1", 6}, {"1 1 1; -1 0 2; 3 5 6", 1}, {"1 2 3; 4 5 6; 7 8 9", 5}, {"2 0 0; 0 2 0; 1 1 1", 3}, {"4 0 0; 0 4 0; 2 2 2", 12}, {"6 0 0; 0 10 0; 0 0 15", 36},
		// With the half of a sum.
		{"2 0 0 0; 0 2 0 0; 0 0 2 0; 1 1 1 1", 4}, {"2 0 0 0 0; 0 2 0 0 0; 0 0 2 0 0; 0 0 0 2 0; 1 1 1 1 1", 4}, {"4 0 0 0 0; 0 4 0 0 0; 0 0 4 0 0; 0 0 0 4 0; 2 2 2 2 1", 4}, {"4 0 0 0 0; 0 4 0 0 0; 0 0 4 0 0; 0 0 0 4 0; 2 2 2 2 3", 16}, {"2 0 0 0; 0 2 0 0; 0 0 2 0; 0 0 0 2", 4},
		{"1 -1 0 0; 0 1 -1 0; 0 0 1 -1", 2}, {"1 -1 0 0 0 0; 0 1 -1 0 0 0; 0 0 1 -1 0 0; 0 0 0 1 -1 0; 0 0 0 0 1 -1", 2}, {"1 1 0 0 0; 1 -1 0 0 0; 0 1 -1 0 0; 0 0 1 -1 0; 0 0 0 1 -1", 2},
		// Rank 5 with more rows than that, in more columns than that.
		{"3 0 0 0 0 0; 0 3 0 0 0 0; 0 0 3 0 0 0; 0 0 0 3 0 0; 0 0 0 0 3 0; 3 3 3 3 3 0; 1 1 1 1 1 0", 5}, {"2 0 0 0 0; 0 2 0 0 0; 0 0 2 0 0; 0 0 0 2 0; 0 0 0 0 2; 1 1 1 1 1; 0 0 0 0 0", 4},
	} {
		holdLeast(t, mx(c.a), num(c.want))
		holdLeast(t, made.Disguised(mx(c.a)), num(c.want))
	}
}

// P23.1 to P23.6: each integer, in whatever form, as the only entry.
func TestSingles(t *testing.T) {
	for _, n := range append(check.Integers(), check.Zeros()...) {
		a := api.Mat{Rows: 1, Cols: 1, At: []api.Int{n}}
		square := zint.Mul(n, n)
		check.Ints(t, of("Dets", a), holdDets(t, a), []api.Int{num(1), square})
		zero := zint.Sign(n) == 0
		holdIsReduced(t, a, !zero)
		holdReduce(t, a)
		if zero {
			holdNoShortest(t, a, api.ErrNone)
			continue
		}
		holdLeast(t, a, square)
		for _, m := range check.Integers() {
			holdNear(t, a, []api.Int{m})
		}
	}
}

// P23.1 to P23.6 at zeros in every form, of the greatest shapes too.
func TestZeros(t *testing.T) {
	for _, shape := range [][2]int{{1, 1}, {2, 3}, {3, 2}, {64, 64}, {64, 1}, {1, 64}, {64, 0}, {0, 64}} {
		rows, cols := shape[0], shape[1]
		a := check.Filled(rows, cols, check.Zeros())
		holdDets(t, a)
		holdIsReduced(t, a, rows == 0)
		b, by := holdReduce(t, a)
		check.Mat(t, of("b of Reduce", a), b, api.Mat{Cols: cols})
		check.Mat(t, of("t of Reduce", a), by, api.Mat{Cols: rows})
		holdNoShortest(t, a, api.ErrNone)
	}
}

// P23.3 to P23.6: unit matrices are reduced, whichever row is near to one is that one, and only up to 5 rows a shortest one is looked for.
func TestUnits(t *testing.T) {
	for _, n := range []int{0, 1, 2, 5, 6, 64} {
		a := unitOf(n)
		holdIsReduced(t, a, true)
		holdReduce(t, a)
		v := check.Filled(1, n, nums(-3, 0, 7)).At
		check.Ints(t, of("Near", a), holdNear(t, a, v), v)
		switch {
		case n == 0:
			holdNoShortest(t, a, api.ErrNone)
		case n <= api.MaxShort:
			holdLeast(t, a, num(1))
		default:
			holdNoShortest(t, a, api.ErrLarge)
		}
	}
}
