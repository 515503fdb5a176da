package sparse_test

import (
	"fmt"
	"testing"

	"trellis/api"
	"trellis/check"
	"trellis/sparse"
)

// P10.10.
func TestMul(t *testing.T) {
	for _, c := range []struct{ g, h, want string }{
		{"1 2; 0 0", "2 0; -1 0", "0 0; 0 0"},
		{"1 2; 3 4", "0 1; 1 0", "2 1; 4 3"},
		{"1 2 3", "4; 5; 6", "32"},
		{"4; 5; 6", "1 2 3", "4 8 12; 5 10 15; 6 12 18"},
		{"1 0 2; 0 3 0", "1 0; 0 -1; 0 4", "1 8; 0 -3"},
		{"1 -1", "3 0 3; 3 5 2", "0 -5 1"},
		{"0x0", "0x0", "0x0"},
		{"2x0", "0x3", "0 0 0; 0 0 0"},
		{"0x2", "1 2 3; 4 5 6", "0x3"},
		{"1 2; 3 4", "2x0", "2x0"},
		{"0x2", "2x0", "0x0"},
		{"0 0; 0 0", "1 2; 3 4", "0 0; 0 0"},
	} {
		g, h := grid(t, c.g), grid(t, c.h)
		call := fmt.Sprintf("of %s Mul of %s", c.g, c.h)
		hold(t, call, made(t, call)(g.Mul(h)), plainOf(mx(c.want)))
		hold(t, call+": the left one", g, plainOf(mx(c.g)))
		hold(t, call+": the right one", h, plainOf(mx(c.h)))
	}
}

// P10.10.
func TestAdd(t *testing.T) {
	for _, c := range []struct{ g, h, want string }{
		{"1 2; 3 4", "0 1; 1 0", "1 3; 4 4"},
		{"1 0 2; 0 3 0", "-1 5 0; 0 -3 1", "0 5 2; 0 0 1"},
		{"1 2", "-1 -2", "0 0"},
		{"0 0", "1 0", "1 0"},
		{"1 0", "0 0", "1 0"},
		{"0x0", "0x0", "0x0"},
		{"0x3", "0x3", "0x3"},
		{"3x0", "3x0", "3x0"},
	} {
		g, h := grid(t, c.g), grid(t, c.h)
		call := fmt.Sprintf("of %s Add of %s", c.g, c.h)
		hold(t, call, made(t, call)(g.Add(h)), plainOf(mx(c.want)))
		hold(t, call+": the left one", g, plainOf(mx(c.g)))
		hold(t, call+": the right one", h, plainOf(mx(c.h)))
	}
}

// P10.10: one grid taken twice.
func TestOneGridTwice(t *testing.T) {
	for _, c := range []struct{ g, square, double string }{
		{"1 2; 3 4", "7 10; 15 22", "2 4; 6 8"},
		{"0 1; 0 0", "0 0; 0 0", "0 2; 0 0"},
		{"-3", "9", "-6"},
		{"0x0", "0x0", "0x0"},
	} {
		g := grid(t, c.g)
		hold(t, c.g+" times itself", made(t, "Mul")(g.Mul(g)), plainOf(mx(c.square)))
		hold(t, c.g+" and itself", made(t, "Add")(g.Add(g)), plainOf(mx(c.double)))
		hold(t, c.g, g, plainOf(mx(c.g)))
	}
	g := filled(t, 1, wide, most)
	want := stateOf(g)
	twice := made(t, "Add")(g.Add(g))
	hold(t, "a full grid", g, want)
	for i := range want.at {
		want.at[i].Val = num(2)
	}
	hold(t, "a full grid and itself", twice, want)
	p, e := g.Mul(g)
	holdNone(t, "a row times itself", p, e, api.ErrFit)
}

// P10.10: which shapes go together; ErrFit comes ahead of ErrLarge.
func TestUnfit(t *testing.T) {
	var grids []*sparse.Grid
	for _, rows := range []int{0, 1, 2, 65, wide} {
		for _, cols := range []int{0, 1, 2, 65, wide} {
			g := fresh(t, rows, cols)
			// Where there is a place, something stands there.
			g.Set(0, 0, num(1))
			grids = append(grids, g)
		}
	}
	grids = append(grids, filled(t, 1, 5000, most), filled(t, 1, 5001, most), filled(t, 1, most, most).Turn())
	for _, g := range grids {
		for _, h := range grids {
			left, right := stateOf(g), stateOf(h)
			call := fmt.Sprintf("of %d by %d, and %d by %d", left.rows, left.cols, right.rows, right.cols)
			if left.cols != right.rows {
				p, e := g.Mul(h)
				holdNone(t, "Mul "+call, p, e, api.ErrFit)
			}
			if left.rows != right.rows || left.cols != right.cols {
				p, e := g.Add(h)
				holdNone(t, "Add "+call, p, e, api.ErrFit)
			}
			hold(t, call+": the left one", g, left)
			hold(t, call+": the right one", h, right)
		}
	}
}

// P10.10: what a product holds is counted when all of it is done.
func TestMulLimit(t *testing.T) {
	for _, c := range []struct {
		rows, cols int // a column of so many rows times a row of so many columns, which holds 2 at each of its places
		vanish     int // a second column and row take so many columns out of the product
		e          api.Errno
	}{
		{64, 64, 0, api.OK},
		{64, 65, 0, api.ErrLarge},
		{64, 65, 1, api.OK},
		{17, 241, 0, api.ErrLarge},
		{17, 242, 1, api.ErrLarge},
		{17, 242, 2, api.OK},
		{1, 4096, 0, api.OK},
		{2, 2049, 0, api.ErrLarge},
		{2, 2049, 1, api.OK},
		{4096, 1, 0, api.OK},
		{2048, 2, 0, api.OK},
		{2048, 3, 0, api.ErrLarge},
		{2048, 3, 1, api.OK},
		{4096, 4096, 0, api.ErrLarge},
		{150, 1000, 1000, api.OK},
		{150, 1000, 900, api.ErrLarge},
		{150, 1000, 973, api.OK},
	} {
		g, h := fresh(t, 2, wide), fresh(t, 2, wide)
		fill(t, g, 0, 0, c.rows, 3)
		fill(t, h, 0, 0, c.cols, 2)
		if c.vanish > 0 {
			fill(t, g, 1, 0, c.rows, -1)
			fill(t, h, 1, 0, c.vanish, 6)
		}
		g = g.Turn()
		left, right := stateOf(g), stateOf(h)
		p, e := g.Mul(h)
		call := fmt.Sprintf("%+v: Mul", c)
		if c.e == api.OK {
			want := plain{rows: wide, cols: wide}
			for i := range c.rows {
				for j := c.vanish; j < c.cols; j++ {
					want.at = append(want.at, at(i, j, 6))
				}
			}
			hold(t, call, made(t, call)(p, e), want)
		} else {
			holdNone(t, call, p, e, c.e)
		}
		hold(t, call+": the left one", g, left)
		hold(t, call+": the right one", h, right)
	}
}

// P10.10: a product that holds few places, though on the way to each of its rows there are many.
func TestMulOfVanishing(t *testing.T) {
	g, h := fresh(t, 100, 2), fresh(t, 2, wide)
	for i := range 100 {
		g.Set(i, 0, num(1))
		g.Set(i, 1, num(1))
	}
	g.Set(40, 1, num(0))
	fill(t, h, 0, 0, 2048, 5)
	fill(t, h, 1, 0, 2048, -5)
	want := plain{rows: 100, cols: wide}
	for j := range 2048 {
		want.at = append(want.at, at(40, j, 5))
	}
	hold(t, "Mul", made(t, "Mul")(g.Mul(h)), want)
}

// P10.10: what a sum holds is counted when all of it is done.
func TestAddLimit(t *testing.T) {
	for _, c := range []struct {
		left, from, right int // the left one has left places from column 0 on, the right one right places from a column on
		vanish            int // so many of those that they share are the opposite of each other
		e                 api.Errno
	}{
		{4096, 4096, 4096, 0, api.ErrLarge},
		{4096, 0, 4096, 0, api.OK},
		{4096, 0, 4096, 4096, api.OK},
		{4096, 1, 4096, 0, api.ErrLarge},
		{4096, 1, 4096, 1, api.OK},
		{4096, 2000, 4096, 1999, api.ErrLarge},
		{4096, 2000, 4096, 2000, api.OK},
		{2048, 2048, 2048, 0, api.OK},
		{2048, 2048, 2049, 0, api.ErrLarge},
		{2049, 2049, 2048, 0, api.ErrLarge},
		{4096, 5000, 0, 0, api.OK},
		{4096, 5000, 1, 0, api.ErrLarge},
		{0, 5000, 4096, 0, api.OK},
		{1, 5000, 4096, 0, api.ErrLarge},
	} {
		g, h := fresh(t, 1, wide), fresh(t, 1, wide)
		fill(t, g, 0, 0, c.left, 3)
		fill(t, h, 0, c.from, c.right, 1)
		fill(t, h, 0, c.from, c.vanish, -3)
		left, right := stateOf(g), stateOf(h)
		want := plain{rows: 1, cols: wide}
		for j := range c.from + c.right {
			v := 0
			if j < c.left {
				v += 3
			}
			if j >= c.from+c.vanish {
				v++
			} else if j >= c.from {
				v -= 3
			}
			if v != 0 {
				want.at = append(want.at, at(0, j, v))
			}
		}
		for range 2 {
			s, e := g.Add(h)
			call := fmt.Sprintf("%+v: Add", c)
			if c.e == api.OK {
				hold(t, call, made(t, call)(s, e), want)
			} else {
				holdNone(t, call, s, e, c.e)
			}
			hold(t, call+": the left one", g, left)
			hold(t, call+": the right one", h, right)
			g, h, left, right = h, g, right, left
		}
	}
}

// P10.10 for the widest grids there are.
func TestWideProducts(t *testing.T) {
	g, h := fresh(t, wide, wide), fresh(t, wide, wide)
	g.Set(wide-1, 0, num(3))
	g.Set(wide-1, wide-1, num(5))
	h.Set(0, wide-1, plus(0, 1))
	h.Set(wide-1, wide-1, num(-2))
	h.Set(7, 7, num(1))
	hold(t, "Mul", made(t, "Mul")(g.Mul(h)), plain{wide, wide, []api.Place{{Row: wide - 1, Col: wide - 1, Val: plus(top-9, 2)}}})
	hold(t, "Mul, turned", made(t, "Mul")(h.Mul(g)), plain{wide, wide, []api.Place{{Row: 0, Col: 0, Val: plus(0, 3)}, {Row: 0, Col: wide - 1, Val: plus(0, 5)}, at(wide-1, 0, -6), at(wide-1, wide-1, -10)}})
	hold(t, "Add", made(t, "Add")(g.Add(h)), plain{wide, wide, []api.Place{{Row: 0, Col: wide - 1, Val: plus(0, 1)}, at(7, 7, 1), at(wide-1, 0, 3), at(wide-1, wide-1, 3)}})
	hold(t, "no columns", made(t, "Mul")(fresh(t, wide, 0).Mul(fresh(t, 0, wide))), plain{rows: wide, cols: wide})
	hold(t, "no rows", made(t, "Mul")(fresh(t, 0, wide).Mul(h)), plain{rows: 0, cols: wide})
}

// P10.11.
func TestTurnAndCopy(t *testing.T) {
	for _, c := range []struct{ g, turned string }{
		{"0 7; 0 0; 1 0", "0 0 1; 7 0 0"},
		{"1 2 3; 4 5 6", "1 4; 2 5; 3 6"},
		{"1 2 3", "1; 2; 3"},
		{"-5", "-5"},
		{"0 0 0; 0 0 0", "0 0; 0 0; 0 0"},
		{"0x0", "0x0"},
		{"0x3", "3x0"},
		{"3x0", "0x3"},
	} {
		g := grid(t, c.g)
		hold(t, c.g+": Turn", g.Turn(), plainOf(mx(c.turned)))
		hold(t, c.g+": Turn twice", g.Turn().Turn(), plainOf(mx(c.g)))
		hold(t, c.g+": Copy", g.Copy(), plainOf(mx(c.g)))
		hold(t, c.g, g, plainOf(mx(c.g)))
	}
	g := filled(t, 3, wide, most)
	before := stateOf(g)
	want := plain{rows: wide, cols: 3}
	for i := range most {
		want.at = append(want.at, at(i, 0, 1))
	}
	hold(t, "a full grid: Copy", g.Copy(), before)
	hold(t, "a full grid: Turn", g.Turn(), want)
	check.Same(t, "one place more in a full grid's copy", g.Copy().Set(1, 0, num(1)), api.ErrLarge)
	check.Same(t, "one place more in a full grid, turned", g.Turn().Set(0, 1, num(1)), api.ErrLarge)
}

// answers are grids that are made of one of 2 rows and columns, or of it and another.
func answers(t *testing.T) map[string]func(g, h *sparse.Grid) *sparse.Grid {
	return map[string]func(g, h *sparse.Grid) *sparse.Grid{
		"Mul":              func(g, h *sparse.Grid) *sparse.Grid { return made(t, "Mul")(g.Mul(h)) },
		"Mul of itself":    func(g, h *sparse.Grid) *sparse.Grid { return made(t, "Mul")(g.Mul(g)) },
		"Mul of the unit":  func(g, h *sparse.Grid) *sparse.Grid { return made(t, "Mul")(g.Mul(grid(t, "1 0; 0 1"))) },
		"Mul by the unit":  func(g, h *sparse.Grid) *sparse.Grid { return made(t, "Mul")(grid(t, "1 0; 0 1").Mul(g)) },
		"Add":              func(g, h *sparse.Grid) *sparse.Grid { return made(t, "Add")(g.Add(h)) },
		"Add of itself":    func(g, h *sparse.Grid) *sparse.Grid { return made(t, "Add")(g.Add(g)) },
		"Add of zeros":     func(g, h *sparse.Grid) *sparse.Grid { return made(t, "Add")(g.Add(fresh(t, 2, 2))) },
		"Add to zeros":     func(g, h *sparse.Grid) *sparse.Grid { return made(t, "Add")(fresh(t, 2, 2).Add(g)) },
		"Turn":             func(g, h *sparse.Grid) *sparse.Grid { return g.Turn() },
		"Copy":             func(g, h *sparse.Grid) *sparse.Grid { return g.Copy() },
		"a turned Copy":    func(g, h *sparse.Grid) *sparse.Grid { return g.Copy().Turn() },
		"a Copy of itself": func(g, h *sparse.Grid) *sparse.Grid { return g.Copy().Copy() },
	}
}

// P10.11: what is done to a grid that was answered changes no other one, and the other way round.
func TestGridsOfTheirOwn(t *testing.T) {
	for name, answer := range answers(t) {
		for done, change := range changes() {
			for which := range 3 {
				grids := []*sparse.Grid{grid(t, "1 0; -4 3"), grid(t, "0 5; 6 7")}
				grids = append(grids, answer(grids[0], grids[1]))
				var before []plain
				for _, g := range grids {
					before = append(before, stateOf(g))
				}
				change(grids[which])
				for i, g := range grids {
					if i != which {
						hold(t, fmt.Sprintf("%s: grid %d after %s of grid %d", name, i, done, which), g, before[i])
					}
				}
			}
		}
	}
}
