package sparse_test

import (
	"fmt"
	"testing"

	"trellis/api"
	"trellis/check"
	"trellis/mat"
	"trellis/sparse"
	"trellis/zint"
)

// window is a grid of which only some rows and columns, both rising, are ever used, and the matrix of what must stand there.
type window struct {
	grid       *sparse.Grid
	rows, cols []int
	at         api.Mat
}

// newWindow looks at these rows and columns of an empty grid.
func newWindow(t *testing.T, height, width int, rows, cols []int) *window {
	t.Helper()
	zero, _ := mat.Zero(len(rows), len(cols))
	return &window{grid: fresh(t, height, width), rows: rows, cols: cols, at: zero}
}

// row is row i of the matrix, in its own memory.
func (w *window) row(i int) []api.Int {
	return w.at.At[i*w.at.Cols : (i+1)*w.at.Cols]
}

// hold asks the grid for just what the matrix has, zeros included.
func (w *window) hold(t *testing.T, call string) {
	t.Helper()
	rows, cols := w.grid.Shape()
	want := plain{rows: rows, cols: cols}
	for i, row := range w.rows {
		for j, col := range w.cols {
			n := w.row(i)[j]
			got, e := w.grid.Get(row, col)
			check.Same(t, call, e, api.OK)
			check.Int(t, fmt.Sprintf("%s: Get(%d, %d)", call, row, col), got, n)
			if zint.Sign(n) != 0 {
				want.at = append(want.at, api.Place{Row: row, Col: col, Val: n})
			}
		}
	}
	hold(t, call, w.grid, want)
	holdPlaces(t, call+": All", told(t, call, w.grid.All()), want.at)
}

// do does one of the things that change a grid, which one and where the word says, to the grid and by the chapter's words to the matrix.
func (w *window) do(t *testing.T, word uint64, numbers []api.Int) string {
	t.Helper()
	i, j, col := word>>8%uint64(len(w.rows)), word>>16%uint64(len(w.rows)), word>>24%uint64(len(w.cols))
	n := numbers[word>>32%uint64(len(numbers))]
	one, other := w.row(int(i)), w.row(int(j))
	var call string
	var e api.Errno
	switch word % 7 {
	case 0, 1, 2:
		call = fmt.Sprintf("Set(%d, %d, %v)", w.rows[i], w.cols[col], n)
		e = w.grid.Set(w.rows[i], w.cols[col], n)
		one[col] = zint.Least(n)
	case 3, 4:
		call = fmt.Sprintf("AddRow(%d, %d, %v)", w.rows[i], w.rows[j], n)
		e = w.grid.AddRow(w.rows[i], w.rows[j], n)
		for c := range one {
			one[c] = zint.Add(one[c], zint.Mul(n, other[c]))
		}
	case 5:
		call = fmt.Sprintf("Swap(%d, %d)", w.rows[i], w.rows[j])
		e = w.grid.Swap(w.rows[i], w.rows[j])
		for c := range one {
			one[c], other[c] = other[c], one[c]
		}
	default:
		call = fmt.Sprintf("Clear(%d)", w.rows[i])
		e = w.grid.Clear(w.rows[i])
		clear(one)
	}
	check.Same(t, call, e, api.OK)
	return call
}

// P10.4 to P10.8: long runs of all that may be done, each step held against a matrix.
func TestRunsOfChanges(t *testing.T) {
	for name, w := range map[string]func() *window{
		"all of 3 by 4": func() *window { return newWindow(t, 3, 4, []int{0, 1, 2}, []int{0, 1, 2, 3}) },
		"all of 1 by 5": func() *window { return newWindow(t, 1, 5, []int{0}, []int{0, 1, 2, 3, 4}) },
		"all of 5 by 1": func() *window { return newWindow(t, 5, 1, []int{0, 1, 2, 3, 4}, []int{0}) },
		"ends of the widest": func() *window {
			return newWindow(t, wide, wide, []int{0, 9, 1 << 10, 1 << 19, wide - 1}, []int{0, 1, 63, 64, 99999, wide - 1})
		},
	} {
		for kind, numbers := range map[string][]api.Int{
			"small":        nums(0, 1, -1, 2, -2, 1, -1),
			"of all kinds": {num(0), num(1), num(-1), minus(0, 0), plus(1, 0), minus(1, 0, 0), plus(top), minus(0, 1), plus(high, high, 0)},
		} {
			run := w()
			for step, word := range check.Mixed(300, uint64(len(name))) {
				call := run.do(t, word^uint64(step)*0x9e3779b97f4a7c15, numbers)
				run.hold(t, fmt.Sprintf("%s, %s numbers, step %d: %s", name, kind, step, call))
				if step%40 == 39 {
					// The numbers would grow with every step.
					for _, row := range run.rows {
						run.grid.Clear(row)
					}
					clear(run.at.At)
				}
			}
		}
	}
}

// matrices are of all shapes of at most 3 rows and columns, most with many zeros, with short and long numbers, in least form or not.
func matrices() []api.Mat {
	lists := [][]api.Int{
		nums(1, 0, -1, 1, 0, 0, 2, -1),
		{plus(top, 0), minus(0), num(0), minus(high, top), num(-1), num(0), plus(0, 0, 1, 0), minus(check.Mixed(4, 1)...), plus(0, 0)},
	}
	var all []api.Mat
	for k, list := range lists {
		for rows := range 4 {
			for cols := range 4 {
				from := (3*rows + cols + k) % len(list)
				all = append(all, check.Filled(rows, cols, append(list[from:len(list):len(list)], list[:from]...)))
			}
		}
	}
	return all
}

// P10.10, P10.11 against the calls of layer 9: for all pairs of the matrices, and the largest ones.
func TestLikeMatrices(t *testing.T) {
	list := append(matrices(), check.Filled(64, 64, nums(1, 0, -1, 0, 2)), check.Filled(64, 64, nums(0, 0, 3)), check.Filled(64, 64, check.Integers()))
	for _, a := range list {
		g := made(t, "Of")(sparse.Of(a))
		turned, _ := mat.Turn(a)
		hold(t, "Turn", g.Turn(), plainOf(turned))
		hold(t, "Copy", g.Copy(), plainOf(a))
		for _, b := range list {
			h := made(t, "Of")(sparse.Of(b))
			call := fmt.Sprintf("%d by %d and %d by %d", a.Rows, a.Cols, b.Rows, b.Cols)
			want, fault := mat.Mul(a, b)
			holdLike(t, "Mul, "+call, want, fault)(g.Mul(h))
			want, fault = mat.Add(a, b)
			holdLike(t, "Add, "+call, want, fault)(g.Add(h))
		}
	}
}

// holdLike asks for the grid of a matrix, or for its fault.
func holdLike(t *testing.T, call string, want api.Mat, fault api.Errno) func(g *sparse.Grid, e api.Errno) {
	return func(g *sparse.Grid, e api.Errno) {
		t.Helper()
		if fault != api.OK {
			holdNone(t, call, g, e, fault)
			return
		}
		hold(t, call, made(t, call)(g, e), plainOf(want))
	}
}
