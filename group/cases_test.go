package group_test

import (
	"testing"

	"trellis/api"
	"trellis/check"
	"trellis/group"
	"trellis/made"
	"trellis/mat"
	"trellis/zint"
)

// P22.1, P22.2, P22.5 to P22.7, the whole's P8, worked out by hand.
func TestGroups(t *testing.T) {
	for _, c := range []struct {
		a       string
		rank    int
		factors string
	}{
		// No rows, no columns, neither.
		{"0x0", 0, ""}, {"1x0", 0, ""}, {"3x0", 0, ""}, {"64x0", 0, ""}, {"0x1", 1, ""}, {"0x2", 2, ""}, {"0x64", 64, ""},
		// Rank 0.
		{"0", 1, ""}, {"0 0", 2, ""}, {"0; 0", 1, ""}, {"0 0 0; 0 0 0", 3, ""},
		// One row, one column.
		{"1", 0, ""}, {"-1", 0, ""}, {"2", 0, "2"}, {"-6", 0, "6"}, {"4; 6", 0, "2"}, {"6; 10; 15", 0, ""}, {"0; -7", 0, "7"}, {"2 0", 1, "2"}, {"0 -5", 1, "5"}, {"4 6", 1, "2"}, {"2 3", 1, ""}, {"6 10 15", 2, ""}, {"-12 18 30", 2, "6"},
		// Factors 1 fall away, be there some, or all.
		{"1 0; 0 1", 0, ""}, {"0 1; -1 0", 0, ""}, {"2 1; 1 1", 0, ""}, {"1 0; 0 6", 0, "6"}, {"2 0; 0 3", 0, "6"}, {"1 2; 3 4", 0, "2"}, {"6 0 0; 0 10 0; 0 0 15", 0, "30 30"}, {"1 0 0; 0 1 0; 0 0 4", 0, "4"}, {"1 0 0; 0 1 0", 1, ""},
		// Factors that stay apart, each dividing the next.
		{"2 0; 0 2", 0, "2 2"}, {"4 0; 0 6", 0, "2 12"}, {"2 4; 6 8", 0, "2 4"}, {"2 2; 0 2", 0, "2 2"}, {"2 1; 0 2", 0, "4"}, {"4 2 0; 2 6 2; 0 2 8", 0, "2 2 36"}, {"2 4 4; -6 6 12; 10 -4 -16", 0, "2 6 12"}, {"3 0 0; 0 3 0; 0 0 3", 0, "3 3 3"}, {"3 -1 -1; -1 3 -1; -1 -1 3", 0, "4 4"}, {"0 2 0; 0 0 2; 2 0 0", 0, "2 2 2"},
		// Of less rank than there are columns.
		{"4 0 0; 0 6 0", 1, "2 12"}, {"1 2; 2 4", 1, ""}, {"2 4; 4 8", 1, "2"}, {"4 6; 6 9", 1, ""}, {"1 2 3; 4 5 6; 7 8 9", 1, "3"}, {"2 -1 -1; -1 2 -1; -1 -1 2", 1, "3"}, {"0 0 1; 0 0 0", 2, ""}, {"0 0 0 5", 3, "5"}, {"0 2 0 2; 0 0 0 4", 2, "2 4"},
		// More rows than columns.
		{"2 0; 0 2; 2 2; 0 0", 0, "2 2"}, {"4 0; 0 6; 2 3", 0, "12"}, {"1 2; 3 4; 5 6", 0, "2"}, {"4; 6; 0; 10", 0, "2"},
	} {
		holdGroup(t, mx(c.a), c.rank, row(c.factors))
		holdGroup(t, made.Disguised(mx(c.a)), c.rank, row(c.factors))
	}
}

// P22.3, worked out by hand.
func TestRep(t *testing.T) {
	for _, c := range [][3]string{
		{"0x0", "", ""}, {"2x0", "", ""}, {"0x1", "-5", "-5"}, {"0x3", "1 -2 3", "1 -2 3"}, {"0 0; 0 0", "7 -7", "7 -7"}, {"0; 0", "-3", "-3"},
		{"3", "0", "0"}, {"3", "2", "2"}, {"3", "3", "0"}, {"3", "-1", "2"}, {"-3", "-3", "0"}, {"-3", "100", "1"}, {"1", "-12345", "0"}, {"4; 6", "5", "1"}, {"4; 6", "-4", "0"},
		{"2 0", "5 -7", "1 -7"}, {"2 3", "5 7", "1 1"}, {"2 3", "-1 0", "1 3"}, {"0 4", "-9 -9", "-9 3"}, {"1 1", "5 2", "0 -3"},
		{"3 1; 0 2", "4 0", "1 1"}, {"3 1; 0 2", "3 1", "0 0"}, {"3 1; 0 2", "-1 0", "2 1"}, {"0 2; 3 1", "4 0", "1 1"}, {"2 0; 0 3", "-1 -1", "1 2"}, {"1 0; 0 1", "9 -9", "0 0"}, {"1 2; 3 4", "5 5", "0 1"}, {"1 2; 3 4", "0 -2", "0 0"},
		{"2 1 7; 0 3 5", "2 4 12", "0 0 0"}, {"2 1 7; 0 3 5", "-1 -1 -1", "1 0 6"}, {"1 2 3; 4 5 6; 7 8 9", "1 1 1", "0 2 4"}, {"0 2 0; 0 0 3", "-1 -1 -1", "-1 1 2"},
	} {
		a, v := mx(c[0]), row(c[1])
		check.Ints(t, at("Rep", a, v), holdRep(t, a, v), row(c[2]))
		check.Ints(t, at("Rep", a, v), holdRep(t, made.Disguised(a), disguised(v)), row(c[2]))
	}
}

// P22.4, worked out by hand.
func TestOrder(t *testing.T) {
	for _, c := range []struct {
		a, v string
		want int
	}{
		{"0x0", "", 1}, {"2x0", "", 1}, {"0x1", "0", 1}, {"0x1", "5", 0}, {"0x3", "0 0 0", 1}, {"0x3", "0 -1 0", 0}, {"0; 0", "0", 1}, {"0; 0", "1", 0}, {"0 0", "0 0", 1},
		{"6", "0", 1}, {"6", "1", 6}, {"6", "2", 3}, {"6", "-3", 2}, {"6", "4", 3}, {"6", "-12", 1}, {"-6", "5", 6}, {"1", "7", 1}, {"4; 6", "3", 2}, {"4; 6", "-2", 1},
		// Along a row, beside it, across it.
		{"2 0", "1 0", 2}, {"2 0", "0 1", 0}, {"2 0", "1 1", 0}, {"2 0", "2 -1", 0}, {"2 4", "1 2", 2}, {"2 4", "-3 -6", 2}, {"2 4", "1 3", 0}, {"2 4", "0 1", 0}, {"0 3", "1 0", 0}, {"0 3", "0 2", 3}, {"6 9", "2 3", 3}, {"6 9", "4 6", 3}, {"1 1 1", "1 1 0", 0},
		// Where the first place is done, and the next one is not.
		{"2 0; 0 3", "1 1", 6}, {"2 0; 0 3", "0 1", 3}, {"2 0; 0 3", "1 0", 2}, {"2 0; 0 3", "1 -2", 6}, {"2 0; 0 3", "4 3", 1}, {"2 1; 0 2", "1 0", 4}, {"2 1; 0 2", "0 1", 2}, {"2 1; 0 2", "1 1", 4}, {"2 1; 0 2", "2 0", 2}, {"4 1; 0 4", "1 0", 16}, {"4 2; 0 4", "1 0", 8}, {"4 2; 0 4", "2 1", 2}, {"4 2; 0 4", "2 0", 4},
		{"2 1 0; 0 2 1; 0 0 2", "1 0 0", 8}, {"2 1 0; 0 2 1; 0 0 2", "0 1 0", 4}, {"2 1 0; 0 2 1; 0 0 2", "0 0 1", 2}, {"2 1 0; 0 2 1; 0 0 2", "1 1 1", 8}, {"6 0 0; 0 10 0; 0 0 15", "1 1 1", 30}, {"6 0 0; 0 10 0; 0 0 15", "2 4 3", 15}, {"2 0 1; 0 3 0", "1 1 0", 0}, {"2 0 2; 0 3 0", "1 1 1", 6}, {"2 0 2; 0 3 0", "1 1 0", 0}, {"1 2 3; 4 5 6; 7 8 9", "1 1 1", 3}, {"1 2 3; 4 5 6; 7 8 9", "1 1 2", 0},
	} {
		holdOrder(t, mx(c.a), row(c.v), num(c.want))
		holdOrder(t, made.Disguised(mx(c.a)), disguised(row(c.v)), num(c.want))
		holdOrder(t, mx(c.a), multiple(num(-1), row(c.v)), num(c.want))
	}
}

// P22.6: those of one line have groups that are alike, those of two lines have not.
func TestSame(t *testing.T) {
	all := [][]string{
		{"0x0", "1x0", "64x0", "1", "-1", "1; 0", "2; 3", "1 0; 0 1", "2 1; 1 1", "1 0; 0 1; 5 5"}, {"0x1", "0", "0; 0", "1 0", "2 3", "1 2; 2 4", "0 0 1; 1 0 0"}, {"0x2", "0 0", "0 0 1; 0 0 0", "6 10 15"}, {"0x3", "0 0 0"},
		{"2", "-2", "2; 4", "1 0; 0 2", "1 2; 3 4", "2 1; 0 1"}, {"3", "1 0; 0 3"}, {"2 0", "0 -2", "4 6", "2 4; 4 8"}, {"2 0 0", "0 0 0 2; 0 1 0 0"},
		{"4", "1 0; 0 4", "2 1; 0 2"}, {"2 0; 0 2", "2 2; 0 2", "2 100; 0 2", "1 0 0; 0 2 0; 0 0 2"}, {"6", "2 0; 0 3", "3 0; 0 2", "-6"}, {"2 0; 0 4", "2 4; 6 8", "4 0; 0 2"}, {"8", "2 1 0; 0 2 1; 0 0 2"}, {"2 0 0; 0 2 0; 0 0 2"}, {"2 0; 0 12", "4 0; 0 6"}, {"24", "1 0; 0 24", "3 0; 0 8"}, {"2 0 0; 0 12 0", "4 0 0; 0 6 0"}, {"30 0; 0 30", "6 0 0; 0 10 0; 0 0 15"},
	}
	for i, line := range all {
		for k, other := range all {
			for _, one := range line {
				for _, two := range other {
					holdSame(t, mx(one), made.Disguised(mx(two)), i == k)
				}
			}
		}
	}
}

// P22.5: what a row is told as hangs on its class alone, and on all of it.
func TestCoords(t *testing.T) {
	for _, c := range []struct{ a, m string }{
		{"0x0", ""}, {"3x0", ""}, {"1", ""}, {"0", "0"}, {"0x3", "0 0 0"}, {"6", "6"}, {"2 0", "2 0"}, {"2 3", "0"}, {"2 0; 0 3", "6"}, {"2 1; 0 2", "4"}, {"2 4; 6 8", "2 4"}, {"4 0 0; 0 6 0", "2 12 0"}, {"1 2 3; 4 5 6; 7 8 9", "3 0"}, {"0 0 0 5", "5 0 0 0"}, {"4 2 0; 2 6 2; 0 2 8", "2 2 36"},
	} {
		a := mx(c.a)
		coords, m := holdCoords(t, a, row(c.m))
		for v := range made.AllSmall(1, a.Cols, []int{-3, 0, 1, 2}) {
			n := v.Matrix(a.Cols).At
			check.Same(t, at("is a row told as the zero row is", a, n), isZero(told(coords, m, n)), lies(a, n))
		}
	}
}

// P22.1 to P22.7: each integer, in whatever form, as the only entry.
func TestSingles(t *testing.T) {
	for _, n := range append(check.Integers(), check.Zeros()...) {
		a := api.Mat{Rows: 1, Cols: 1, At: []api.Int{n}}
		size := zint.Abs(n)
		if zint.Sign(size) == 0 {
			holdGroup(t, a, 1, nil)
		} else {
			holdGroup(t, a, 0, above([]api.Int{size}))
		}
		for _, m := range check.Integers() {
			v := []api.Int{m}
			want := zint.Least(m)
			if zint.Sign(size) > 0 {
				want, _ = zint.Mod(m, size)
			}
			check.Ints(t, at("Rep", a, v), holdRep(t, a, v), []api.Int{want})
			holdOrder(t, a, v, orderOf([]api.Int{size}, []api.Int{want}))
			holdSame(t, a, api.Mat{Rows: 1, Cols: 1, At: v}, zint.CmpAbs(n, m) == 0)
		}
	}
}

// P22.1 to P22.7 at zeros in every form, of the greatest shapes too.
func TestZeros(t *testing.T) {
	for _, shape := range [][2]int{{1, 1}, {2, 3}, {3, 2}, {64, 64}, {64, 1}, {1, 64}, {64, 0}, {0, 64}} {
		rows, cols := shape[0], shape[1]
		a := check.Filled(rows, cols, check.Zeros())
		holdGroup(t, a, cols, nil)
		v := check.Filled(1, cols, check.Integers()).At
		least, _ := mat.Make(1, cols, v)
		check.Ints(t, of("Rep modulo zeros", a), holdRep(t, a, v), least.At)
		zeros := check.Filled(1, cols, check.Zeros()).At
		check.Ints(t, of("Rep of zeros", a), holdRep(t, a, zeros), make([]api.Int, cols))
		holdOrder(t, a, zeros, num(1))
		for place := range cols {
			zeros[place] = minus(0, 6, 0)
			holdOrder(t, a, zeros, num(0))
			zeros[place] = minus(0)
		}
	}
}

// P22.1 to P22.7: a unit matrix leaves one class, and one less row of it an endless group.
func TestUnits(t *testing.T) {
	for _, n := range []int{0, 1, 2, 5, 64} {
		holdGroup(t, unitOf(n), 0, nil)
		v := check.Filled(1, n, nums(-3, 0, 7)).At
		check.Ints(t, "Rep modulo the unit matrix", holdRep(t, unitOf(n), v), make([]api.Int, n))
		holdOrder(t, unitOf(n), v, num(1))
		if n == 0 {
			continue
		}
		less, _ := mat.Pick(unitOf(n), first(n)[1:], first(n))
		holdGroup(t, less, 1, nil)
		check.Ints(t, "Rep modulo a row less", holdRep(t, less, v), append(v[:1:1], make([]api.Int, n-1)...))
		holdOrder(t, less, v, num(0))
	}
}

// P22.2: sizes of more words than one.
func TestSizeOfLarge(t *testing.T) {
	for _, list := range [][]api.Int{{num(1 << 32), num(1 << 32)}, {plus(check.High), num(2), num(-3)}, {plus(0, 0, 1), plus(5)}, check.Filled(1, 64, nums(2)).At, check.Filled(1, 64, nums(1<<40)).At} {
		size := num(1)
		for _, n := range list {
			size = zint.Mul(size, zint.Abs(n))
		}
		a := diagOf(len(list), len(list), list)
		holdSize(t, a, size)
		wide := diagOf(len(list), min(64, len(list)+1), list)
		if wide.Cols > len(list) {
			size = num(0)
		}
		holdSize(t, wide, size)
		_, _, e := group.Of(a)
		check.Same(t, of("Of", a), e, api.OK)
	}
}
