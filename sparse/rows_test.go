package sparse_test

import (
	"fmt"
	"testing"

	"trellis/api"
	"trellis/check"
	"trellis/sparse"
)

// P10.6.
func TestAddRow(t *testing.T) {
	for _, c := range []struct {
		before string
		i, j   int
		k      api.Int
		after  string
	}{
		{"1 0 2; 0 3 0", 1, 0, num(-2), "1 0 2; -2 3 -4"},
		{"1 0 2; 0 3 0", 0, 1, num(5), "1 15 2; 0 3 0"},
		{"1 0 2; 0 3 0", 0, 1, num(0), "1 0 2; 0 3 0"},
		{"1 0 2; 0 3 0", 0, 1, minus(0, 0), "1 0 2; 0 3 0"},
		{"1 0 2; 0 3 0", 0, 1, plus(1, 0), "1 3 2; 0 3 0"},
		{"1 2; 3 4; 5 6", 2, 0, num(-5), "1 2; 3 4; 0 -4"},
		{"1 2; 2 4", 1, 0, num(-2), "1 2; 0 0"},
		{"1 2; 0 0", 0, 1, num(7), "1 2; 0 0"},
		{"1 2; 0 0", 1, 0, num(7), "1 2; 7 14"},
		{"1 2; 3 4", 0, 0, num(1), "2 4; 3 4"},
		{"1 2; 3 4", 0, 0, num(0), "1 2; 3 4"},
		{"1 2; 3 4", 0, 0, num(-2), "-1 -2; 3 4"},
		{"1 2; 3 4", 1, 1, num(4), "1 2; 15 20"},
		{"-2 3; 3 4", 1, 1, num(-1), "-2 3; 0 0"},
		{"-2 3; 3 4", 0, 0, minus(1, 0, 0), "0 0; 3 4"},
		{"0 0; 3 4", 0, 0, num(9), "0 0; 3 4"},
		{"7", 0, 0, num(6), "49"},
		{"3x0", 0, 2, num(6), "3x0"},
		{"3x0", 1, 1, num(6), "3x0"},
	} {
		g := grid(t, c.before)
		call := fmt.Sprintf("of %s AddRow(%d, %d, %v)", c.before, c.i, c.j, c.k)
		check.Same(t, call, g.AddRow(c.i, c.j, c.k), api.OK)
		hold(t, call, g, plainOf(mx(c.after)))
	}
}

// P10.6 with numbers that one word does not hold, at the far end of the widest grid.
func TestAddRowWide(t *testing.T) {
	g := fresh(t, wide, wide)
	g.Set(wide-1, wide-1, plus(top))
	g.Set(0, wide-1, minus(1, top-1))
	g.Set(0, 0, plus(0, 1))
	check.Same(t, "AddRow", g.AddRow(0, wide-1, plus(top)), api.OK)
	hold(t, "AddRow", g, plain{wide, wide, []api.Place{{Row: 0, Col: 0, Val: plus(0, 1)}, {Row: wide - 1, Col: wide - 1, Val: plus(top)}}})
	check.Same(t, "AddRow", g.AddRow(wide-1, 0, plus(0, high, 0)), api.OK)
	check.Same(t, "AddRow of one", g.AddRow(0, 0, plus(top)), api.OK)
	hold(t, "AddRow", g, plain{wide, wide, []api.Place{{Row: 0, Col: 0, Val: plus(0, 0, 1)}, {Row: wide - 1, Col: 0, Val: plus(0, 0, high)}, {Row: wide - 1, Col: wide - 1, Val: plus(top)}}})
}

// P10.6: what a grid would hold is counted when all is done: ErrLarge beyond MaxEntries alone, and then nothing has changed.
func TestAddRowLimit(t *testing.T) {
	for _, c := range []struct {
		source, from, target int // row 0 has source places from column 0 on, row 1 has target places from a column on
		vanish               int // so many of those that they share are the opposite of each other
		rest                 int // so many places stand in row 2
		e                    api.Errno
	}{
		{2048, 2048, 2048, 0, 0, api.ErrLarge},
		{2048, 0, 2048, 0, 0, api.OK},
		{2048, 0, 2047, 0, 0, api.OK},
		{2048, 0, 2047, 0, 1, api.ErrLarge},
		{2048, 1, 2048, 0, 0, api.ErrLarge},
		{2048, 1, 2048, 1, 0, api.OK},
		{2048, 1000, 2048, 1000, 0, api.OK},
		{2048, 1000, 2048, 999, 0, api.ErrLarge},
		{2049, 0, 2047, 0, 0, api.ErrLarge},
		{2049, 0, 2047, 2, 0, api.OK},
		{2049, 0, 2047, 1, 0, api.ErrLarge},
		{2049, 0, 0, 0, 0, api.ErrLarge},
		{2048, 0, 0, 0, 0, api.OK},
		{4096, 0, 0, 0, 0, api.ErrLarge},
		{0, 0, 4096, 0, 0, api.OK},
		{1, 4000, 1, 0, 4094, api.ErrLarge},
		{1, 4000, 1, 0, 4093, api.OK},
		{1, 0, 1, 0, 4094, api.OK},
		{1, 0, 1, 1, 4094, api.OK},
	} {
		g := fresh(t, 3, wide)
		fill(t, g, 0, 0, c.source, 3)
		fill(t, g, 1, c.from, c.target, 1)
		fill(t, g, 1, c.from, c.vanish, -6)
		fill(t, g, 2, 0, c.rest, 1)
		call := fmt.Sprintf("%+v: AddRow", c)
		before := stateOf(g)
		check.Same(t, call, g.AddRow(1, 0, num(2)), c.e)
		if c.e != api.OK {
			hold(t, call, g, before)
			continue
		}
		check.Same(t, call+": Len", g.Len(), c.source+max(c.source, c.from+c.target)-max(0, c.from-c.source)-c.vanish+c.rest)
		check.Same(t, call+" back", g.AddRow(1, 0, num(-2)), api.OK)
		hold(t, call+" back", g, before)
	}
}

// P10.6: a full grid still takes a row times a number, and 0 times another row.
func TestAddRowWhereFull(t *testing.T) {
	g := filled(t, 2, wide, most)
	want := stateOf(g)
	check.Same(t, "AddRow of 0", g.AddRow(1, 0, num(0)), api.OK)
	check.Same(t, "AddRow of nothing", g.AddRow(0, 1, num(5)), api.OK)
	hold(t, "a full grid", g, want)
	for i := range want.at {
		want.at[i].Val = num(6)
	}
	check.Same(t, "AddRow of one", g.AddRow(0, 0, num(5)), api.OK)
	hold(t, "a full grid", g, want)
	check.Same(t, "AddRow of one", g.AddRow(0, 0, num(-1)), api.OK)
	hold(t, "an emptied grid", g, plain{rows: 2, cols: wide})
}

// P10.7.
func TestSwap(t *testing.T) {
	for _, c := range []struct {
		before string
		i, j   int
		after  string
	}{
		{"1 0 2; 0 0 0", 0, 1, "0 0 0; 1 0 2"},
		{"1 0 2; 0 0 0", 1, 0, "0 0 0; 1 0 2"},
		{"1 2; 3 4; 5 6", 0, 2, "5 6; 3 4; 1 2"},
		{"1 0; 0 4; 5 0", 2, 1, "1 0; 5 0; 0 4"},
		{"1 2; 3 4", 0, 0, "1 2; 3 4"},
		{"1 2; 3 4", 1, 1, "1 2; 3 4"},
		{"0 0; 0 0", 0, 1, "0 0; 0 0"},
		{"3x0", 0, 2, "3x0"},
		{"5", 0, 0, "5"},
	} {
		g := grid(t, c.before)
		call := fmt.Sprintf("of %s Swap(%d, %d)", c.before, c.i, c.j)
		check.Same(t, call, g.Swap(c.i, c.j), api.OK)
		hold(t, call, g, plainOf(mx(c.after)))
		check.Same(t, call+" twice", g.Swap(c.j, c.i), api.OK)
		hold(t, call+" twice", g, plainOf(mx(c.before)))
	}
}

// P10.7.
func TestClear(t *testing.T) {
	for _, c := range []struct {
		before string
		i      int
		after  string
	}{
		{"1 0 2; 0 3 0", 0, "0 0 0; 0 3 0"},
		{"1 0 2; 0 3 0", 1, "1 0 2; 0 0 0"},
		{"1 2; 0 0; 5 6", 1, "1 2; 0 0; 5 6"},
		{"1 2", 0, "0 0"},
		{"3x0", 2, "3x0"},
	} {
		g := grid(t, c.before)
		call := fmt.Sprintf("of %s Clear(%d)", c.before, c.i)
		for range 2 {
			check.Same(t, call, g.Clear(c.i), api.OK)
			hold(t, call, g, plainOf(mx(c.after)))
		}
	}
}

// P10.7 for a full grid, at the far end of the widest one; a cleared one takes places anew.
func TestSwapAndClearWide(t *testing.T) {
	g := filled(t, wide, wide, most)
	want := stateOf(g)
	check.Same(t, "Swap", g.Swap(0, wide-1), api.OK)
	for i := range want.at {
		want.at[i].Row = wide - 1
	}
	hold(t, "Swap", g, want)
	check.Same(t, "Clear of a row of zeros", g.Clear(0), api.OK)
	hold(t, "Clear of a row of zeros", g, want)
	check.Same(t, "Clear", g.Clear(wide-1), api.OK)
	hold(t, "Clear", g, plain{rows: wide, cols: wide})
	check.Same(t, "Set", g.Set(5, 6, num(7)), api.OK)
	hold(t, "Set", g, plain{wide, wide, []api.Place{at(5, 6, 7)}})
}

// P10.6, P10.7: a row that is none is refused at either place, whatever else there is, and nothing changes.
func TestRowsOutside(t *testing.T) {
	for _, g := range []*sparse.Grid{
		fresh(t, 0, 0), fresh(t, 0, wide), fresh(t, 3, 0), fresh(t, wide, wide), grid(t, "1 0 2; 0 3 0"), grid(t, "7"), filled(t, 2, wide, most),
	} {
		before := stateOf(g)
		for _, bad := range append(outside(), before.rows, before.rows+1) {
			for _, other := range append(outside(), 0, before.rows-1, bad) {
				call := fmt.Sprintf("(%d, %d) of %d by %d", bad, other, before.rows, before.cols)
				for _, k := range []api.Int{num(0), num(1), num(-1), minus(0, 1)} {
					check.Same(t, "AddRow"+call, g.AddRow(bad, other, k), api.ErrArg)
					check.Same(t, "AddRow, turned,"+call, g.AddRow(other, bad, k), api.ErrArg)
				}
				check.Same(t, "Swap"+call, g.Swap(bad, other), api.ErrArg)
				check.Same(t, "Swap, turned,"+call, g.Swap(other, bad), api.ErrArg)
			}
			check.Same(t, fmt.Sprintf("Clear(%d)", bad), g.Clear(bad), api.ErrArg)
		}
		hold(t, "after what was refused", g, before)
	}
}
