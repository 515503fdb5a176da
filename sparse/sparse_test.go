package sparse_test

import (
	"fmt"
	"math"
	"slices"
	"testing"

	"trellis/api"
	"trellis/check"
	"trellis/mat"
	"trellis/sparse"
	"trellis/zint"
)

const (
	top  = check.Top
	high = check.High
	wide = api.MaxWide
	most = api.MaxEntries
)

// The integers and matrices of the tests.
var (
	num, nums   = check.Num, check.Nums
	plus, minus = check.Plus, check.Minus
	mx          = check.Matrix
)

// plain is what a grid must be: its shape, and all that it holds, in order.
type plain struct {
	rows, cols int
	at         []api.Place
}

// at is a place with a small number.
func at(row, col, v int) api.Place {
	return api.Place{Row: row, Col: col, Val: num(v)}
}

// plainOf is what the grid of a matrix must be.
func plainOf(a api.Mat) plain {
	want := plain{rows: a.Rows, cols: a.Cols}
	for i := range a.Rows {
		for j := range a.Cols {
			if n := zint.Least(a.At[i*a.Cols+j]); zint.Sign(n) != 0 {
				want.at = append(want.at, api.Place{Row: i, Col: j, Val: n})
			}
		}
	}
	return want
}

// stateOf is what a grid is now.
func stateOf(g *sparse.Grid) plain {
	rows, cols := g.Shape()
	return plain{rows, cols, g.Places()}
}

// made is the grid of an answer without an error.
func made(t *testing.T, call string) func(g *sparse.Grid, e api.Errno) *sparse.Grid {
	return func(g *sparse.Grid, e api.Errno) *sparse.Grid {
		t.Helper()
		check.Same(t, call, e, api.OK)
		if g == nil {
			t.Fatalf("%s answers no grid", call)
		}
		return g
	}
}

// grid is the grid of the matrix that a text writes.
func grid(t *testing.T, text string) *sparse.Grid {
	t.Helper()
	return made(t, "Of "+text)(sparse.Of(mx(text)))
}

// fresh is an empty grid.
func fresh(t *testing.T, rows, cols int) *sparse.Grid {
	t.Helper()
	return made(t, fmt.Sprintf("New(%d, %d)", rows, cols))(sparse.New(rows, cols))
}

// filled is a grid with n places in row 0 that hold 1, from column 0 on.
func filled(t *testing.T, rows, cols, n int) *sparse.Grid {
	t.Helper()
	g := fresh(t, rows, cols)
	fill(t, g, 0, 0, n, 1)
	return g
}

// fill lets v stand at n places of a row, from a column on.
func fill(t *testing.T, g *sparse.Grid, row, from, n, v int) {
	t.Helper()
	for j := range n {
		check.Same(t, fmt.Sprintf("Set(%d, %d, %d)", row, from+j, v), g.Set(row, from+j, num(v)), api.OK)
	}
}

// hold asks all calls that tell something about a grid for what it must be.
func hold(t *testing.T, call string, g *sparse.Grid, want plain) {
	t.Helper()
	if g == nil {
		t.Errorf("%s: no grid", call)
		return
	}
	rows, cols := g.Shape()
	check.Same(t, call+": rows", rows, want.rows)
	check.Same(t, call+": columns", cols, want.cols)
	check.Same(t, call+": Len", g.Len(), len(want.at))
	holdPlaces(t, call+": Places", g.Places(), want.at)
	for _, p := range want.at {
		v, e := g.Get(p.Row, p.Col)
		check.Same(t, fmt.Sprintf("%s: Get(%d, %d)", call, p.Row, p.Col), e, api.OK)
		check.Int(t, fmt.Sprintf("%s: Get(%d, %d)", call, p.Row, p.Col), v, p.Val)
	}
}

// holdPlaces asks for places in order, with integers in least form.
func holdPlaces(t *testing.T, call string, got, want []api.Place) {
	t.Helper()
	same := func(p, q api.Place) bool {
		return p.Row == q.Row && p.Col == q.Col && p.Val.Neg == q.Val.Neg && slices.Equal(p.Val.Mag, q.Val.Mag)
	}
	if !slices.EqualFunc(got, want, same) {
		t.Errorf("%s: %v, want %v", call, got, want)
	}
}

// holdNone asks for an error without a grid beside it.
func holdNone(t *testing.T, call string, g *sparse.Grid, e, want api.Errno) {
	t.Helper()
	check.Same(t, call, e, want)
	check.Same(t, call+": is there a grid beside the error", g != nil, false)
}

// outside are numbers of rows and columns that no grid has.
func outside() []int {
	return []int{math.MinInt, math.MinInt + 1, -wide, -1, wide + 1, 1 << 31, math.MaxInt}
}

// P10.1, P10.3.
func TestNew(t *testing.T) {
	inside := []int{0, 1, 2, 64, 65, 4096, 4097, wide - 1, wide}
	for _, rows := range inside {
		for _, cols := range inside {
			call := fmt.Sprintf("New(%d, %d)", rows, cols)
			hold(t, call, made(t, call)(sparse.New(rows, cols)), plain{rows: rows, cols: cols})
		}
	}
	for _, bad := range outside() {
		for _, other := range slices.Concat(inside, outside()) {
			g, e := sparse.New(bad, other)
			holdNone(t, fmt.Sprintf("New(%d, %d)", bad, other), g, e, api.ErrArg)
			g, e = sparse.New(other, bad)
			holdNone(t, fmt.Sprintf("New(%d, %d)", other, bad), g, e, api.ErrArg)
		}
	}
}

// P10.1: there is 0 at every place.
func TestNewHoldsZeros(t *testing.T) {
	for _, shape := range [][2]int{{3, 4}, {1, 1}, {wide, wide}} {
		g := fresh(t, shape[0], shape[1])
		for _, i := range []int{0, shape[0] / 2, shape[0] - 1} {
			for _, j := range []int{0, shape[1] / 2, shape[1] - 1} {
				v, e := g.Get(i, j)
				check.Same(t, fmt.Sprintf("Get(%d, %d)", i, j), e, api.OK)
				check.Int(t, fmt.Sprintf("Get(%d, %d)", i, j), v, num(0))
			}
		}
	}
}

// P10.2, P10.3.
func TestOf(t *testing.T) {
	for _, a := range []api.Mat{
		{}, mx("0x3"), mx("3x0"), mx("0x64"), mx("64x0"), mx("5"), mx("0"), mx("1 0 2; 0 3 0"), mx("0 7; 0 0; 1 0"), mx("0 0; 0 0"), mx("1; -2; 0; 4"), mx("1 2 3 4"),
		{Rows: 2, Cols: 2, At: []api.Int{minus(0, 0), plus(7, 0), minus(), minus(0, 1, 0)}},
		{Rows: 1, Cols: 3, At: []api.Int{plus(top), minus(high, top), plus(append(check.Mixed(9, 3), 0, 0)...)}},
		check.Filled(64, 64, nums(-1)), check.Filled(64, 64, nums(0)), check.Filled(64, 64, check.Integers()), check.Filled(1, 64, nums(2)), check.Filled(64, 1, nums(2)),
	} {
		call := fmt.Sprintf("Of %d by %d", a.Rows, a.Cols)
		hold(t, call, made(t, call)(sparse.Of(a)), plainOf(a))
	}
	for _, a := range check.Unsound() {
		g, e := sparse.Of(a)
		holdNone(t, fmt.Sprintf("Of %d by %d with %d entries", a.Rows, a.Cols, len(a.At)), g, e, api.ErrMat)
	}
}

// ends are the first and the last of n rows or columns.
func ends(n int) []int {
	return slices.Compact([]int{0, n - 1})
}

// P10.4, P10.5: every place of a grid takes every integer, whatever its form.
func TestSetAndGet(t *testing.T) {
	for _, shape := range [][2]int{{2, 3}, {1, 1}, {wide, 1}, {1, wide}, {wide, wide}} {
		g, want := fresh(t, shape[0], shape[1]), plain{rows: shape[0], cols: shape[1]}
		for _, i := range ends(shape[0]) {
			for _, j := range ends(shape[1]) {
				for _, v := range slices.Concat(check.Integers(), check.Zeros(), nums(-3)) {
					check.Same(t, fmt.Sprintf("Set(%d, %d, %v)", i, j, v), g.Set(i, j, v), api.OK)
					got, e := g.Get(i, j)
					check.Same(t, fmt.Sprintf("Get(%d, %d)", i, j), e, api.OK)
					check.Int(t, fmt.Sprintf("Get(%d, %d)", i, j), got, zint.Least(v))
				}
				want.at = append(want.at, at(i, j, -3))
			}
		}
		hold(t, fmt.Sprintf("%d by %d", shape[0], shape[1]), g, want)
	}
}

// P10.5: what is set to 0 is held no more, in each form of 0, held before or not.
func TestSetZero(t *testing.T) {
	for _, zero := range check.Zeros() {
		g := grid(t, "1 2; 3 0")
		check.Same(t, "Set to 0", g.Set(0, 1, zero), api.OK)
		check.Same(t, "Set of 0 to 0", g.Set(1, 1, zero), api.OK)
		hold(t, fmt.Sprintf("after Set of %v", zero), g, plainOf(mx("1 0; 3 0")))
	}
}

// placesOutside are places that a grid of this shape does not have.
func placesOutside(rows, cols int) [][2]int {
	var all [][2]int
	for _, bad := range append(outside(), rows, rows+1) {
		all = append(all, [2]int{bad, 0}, [2]int{bad, cols - 1}, [2]int{bad, cols}, [2]int{bad, -1})
	}
	for _, bad := range append(outside(), cols, cols+1) {
		all = append(all, [2]int{0, bad}, [2]int{rows - 1, bad}, [2]int{rows, bad}, [2]int{-1, bad})
	}
	return all
}

// P10.4, P10.5: a place that is none is refused, with 0 too, and where the grid is full.
func TestPlacesOutside(t *testing.T) {
	for _, g := range []*sparse.Grid{
		fresh(t, 0, 0), fresh(t, 0, 3), fresh(t, 3, 0), fresh(t, wide, 0), fresh(t, 0, wide), fresh(t, wide, wide), grid(t, "1 0 2; 0 3 0"), grid(t, "7"), filled(t, 2, wide, most),
	} {
		before := stateOf(g)
		for _, place := range placesOutside(before.rows, before.cols) {
			call := fmt.Sprintf("(%d, %d) of %d by %d", place[0], place[1], before.rows, before.cols)
			v, e := g.Get(place[0], place[1])
			check.Same(t, "Get"+call, e, api.ErrArg)
			check.Int(t, "Get"+call+", beside the error", v, num(0))
			for _, v := range []api.Int{num(1), num(0), minus(0, 0), plus(0, 1, 0)} {
				check.Same(t, "Set"+call, g.Set(place[0], place[1], v), api.ErrArg)
			}
		}
		hold(t, "after what was refused", g, before)
	}
}

// P10.5: a full grid takes no further place, but 0 anywhere and another integer where it holds one.
func TestSetWhereFull(t *testing.T) {
	g := filled(t, 2, 5000, most)
	before := stateOf(g)
	for _, v := range []api.Int{num(1), num(-1), plus(0, 1, 0)} {
		check.Same(t, "Set(0, 4999)", g.Set(0, 4999, v), api.ErrLarge)
		check.Same(t, "Set(0, 4096)", g.Set(0, most, v), api.ErrLarge)
		check.Same(t, "Set(1, 0)", g.Set(1, 0, v), api.ErrLarge)
	}
	for _, zero := range check.Zeros() {
		check.Same(t, "Set(0, 4999) to 0", g.Set(0, 4999, zero), api.OK)
		check.Same(t, "Set(1, 0) to 0", g.Set(1, 0, zero), api.OK)
	}
	hold(t, "a full grid", g, before)
	check.Same(t, "Set of a place that is held", g.Set(0, 7, minus(0, 3)), api.OK)
	before.at[7].Val = minus(0, 3)
	hold(t, "a full grid with another integer", g, before)
	check.Same(t, "Set of a place that is held, to 0", g.Set(0, 0, num(0)), api.OK)
	check.Same(t, "Set of one more", g.Set(1, 4999, num(5)), api.OK)
	hold(t, "a full grid with another place", g, plain{2, 5000, append(before.at[1:], at(1, 4999, 5))})
	check.Same(t, "Set of the place that has left", g.Set(0, 0, num(1)), api.ErrLarge)
}

// P10.8: places come in order, however they came in.
func TestPlacesInOrder(t *testing.T) {
	want := []api.Place{at(0, 0, 1), at(0, 1, 2), at(0, 9, 3), at(0, 10, 4), at(0, wide-1, 5), at(1, 0, 6), at(2, 3, 7), at(9, 0, 8), at(10, 0, 9), at(wide-1, 0, 10), at(wide-1, wide-1, 11)}
	for step := range len(want) - 1 {
		g := fresh(t, wide, wide)
		for i := range want {
			p := want[(i*(step+1)+3)%len(want)]
			check.Same(t, "Set", g.Set(p.Row, p.Col, p.Val), api.OK)
		}
		for range 5 {
			hold(t, fmt.Sprintf("by steps of %d", step+1), g, plain{wide, wide, want})
		}
	}
}

// P10.9.
func TestDense(t *testing.T) {
	for _, a := range []api.Mat{
		{}, mx("0x3"), mx("3x0"), mx("0x64"), mx("64x0"), mx("5"), mx("0"), mx("1 0 2; 0 3 0"), mx("0 7; 0 0; 1 0"), mx("0 0; 0 0"), check.Filled(64, 64, nums(0, 1, 0, -2)),
		check.Filled(1, 64, check.Integers()), check.Filled(64, 1, check.Integers()), check.Filled(64, 64, check.Integers()),
	} {
		got, e := made(t, "Of")(sparse.Of(a)).Dense()
		want, _ := mat.Least(a)
		check.Same(t, fmt.Sprintf("Dense of %d by %d", a.Rows, a.Cols), e, api.OK)
		check.Mat(t, fmt.Sprintf("Dense of %d by %d", a.Rows, a.Cols), got, want)
	}
	for _, shape := range [][2]int{{65, 1}, {1, 65}, {65, 65}, {65, 0}, {0, 65}, {64, 65}, {65, 64}, {wide, 0}, {0, wide}, {wide, wide}} {
		g := fresh(t, shape[0], shape[1])
		// Where there is a place, it makes no difference that something stands there.
		g.Set(0, 0, num(1))
		got, e := g.Dense()
		check.Same(t, fmt.Sprintf("Dense of %d by %d", shape[0], shape[1]), e, api.ErrLarge)
		check.Mat(t, fmt.Sprintf("Dense of %d by %d, beside the error", shape[0], shape[1]), got, api.Mat{})
	}
}

// P10.12.
func TestNil(t *testing.T) {
	var none *sparse.Grid
	for _, i := range append(outside(), 0, 1) {
		v, e := none.Get(i, 0)
		check.Same(t, "Get", e, api.ErrArg)
		check.Int(t, "Get, beside the error", v, num(0))
		check.Same(t, "Set", none.Set(i, 0, num(1)), api.ErrArg)
		check.Same(t, "Set to 0", none.Set(0, i, num(0)), api.ErrArg)
		check.Same(t, "AddRow", none.AddRow(i, i, num(1)), api.ErrArg)
		check.Same(t, "AddRow of 0", none.AddRow(i, 0, num(0)), api.ErrArg)
		check.Same(t, "Swap", none.Swap(i, i), api.ErrArg)
		check.Same(t, "Clear", none.Clear(i), api.ErrArg)
	}
	a, e := none.Dense()
	check.Same(t, "Dense", e, api.ErrArg)
	check.Mat(t, "Dense, beside the error", a, api.Mat{})
	rows, cols := none.Shape()
	check.Same(t, "Shape", [2]int{rows, cols}, [2]int{})
	check.Same(t, "Len", none.Len(), 0)
	check.Same(t, "how many Places has", len(none.Places()), 0)
	all := none.All()
	for range 2 {
		for i, p := range all {
			t.Errorf("All gives %d, %v", i, p)
		}
	}
	check.Same(t, "is Turn a grid", none.Turn() != nil, false)
	check.Same(t, "is Copy a grid", none.Copy() != nil, false)
}

// P10.12: Mul and Add refuse a nil grid on either side, whatever the shape of the other.
func TestNilBeside(t *testing.T) {
	var none *sparse.Grid
	for _, g := range []*sparse.Grid{none, fresh(t, 0, 0), fresh(t, 0, 2), fresh(t, 2, 0), grid(t, "1 2; 3 4"), grid(t, "1 2 3"), filled(t, 1, wide, most)} {
		before := stateOf(g)
		p, e := g.Mul(none)
		holdNone(t, "Mul of nil", p, e, api.ErrArg)
		p, e = none.Mul(g)
		holdNone(t, "nil Mul", p, e, api.ErrArg)
		p, e = g.Add(none)
		holdNone(t, "Add of nil", p, e, api.ErrArg)
		p, e = none.Add(g)
		holdNone(t, "nil Add", p, e, api.ErrArg)
		if g != nil {
			hold(t, "after what was refused", g, before)
		}
	}
}
